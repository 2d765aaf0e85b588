package load_test

import (
	"slices"
	"testing"

	"diapause/api"
	"diapause/load"
)

// spread fails if there is a move still, or the loads of those online differ by more than most.
func spread(t *testing.T, seats []api.Seat, online uint64, most int) {
	t.Helper()
	rests(t, seats, online)
	low, high := maxInt, 0
	for core, n := range modelLoads(seats, maxCores) {
		if has(online, core) {
			low, high = min(low, n), max(high, n)
		}
	}
	if high > low && high-low > most {
		t.Fatalf("loads from %d to %d: of %s", low, high, short(seats))
	}
}

// P15.3: the chapter's example.
func TestSettleOfTheExample(t *testing.T) {
	l := may(3, on(3))
	got, many := settle(t, l, every)
	l[0].Core = 1
	if !slices.Equal(got, l) || many != 1 {
		t.Error(got, many)
	}
}

// P15.3
func TestSettleMakesMoveAfterMove(t *testing.T) {
	got, many := settle(t, on(6), 7)
	want := on(6)
	want[0].Core, want[1].Core, want[2].Core, want[3].Core = 1, 2, 1, 2
	if !slices.Equal(got, want) || many != 4 {
		t.Error(got, many)
	}
	// 1 goes to core 1, and from there to core 2, when core 1 has more.
	l := []api.Seat{{Id: 1, Core: 0, Cores: 6}, {Id: 9, Core: 0, Cores: 1}, {Id: 8, Core: 0, Cores: 3}, {Id: 7, Core: 0, Cores: 3}, {Id: 6, Core: 0, Cores: 3}, {Id: 5, Core: 0, Cores: 1}}
	got, many = settle(t, l, 7)
	l[0].Core, l[4].Core, l[3].Core = 2, 1, 1
	if !slices.Equal(got, l) || many != 4 {
		t.Error(got, many)
	}
}

// P15.3: they stand where they stood, whatever Ids they have, and have the same cores.
func TestSettleLeavesAllButTheCores(t *testing.T) {
	c := chance(1505)
	for range 500 {
		l := c.people(c.upTo(40), 4)
		got, _ := settle(t, l, 15)
		if len(got) != len(l) {
			t.Fatalf("%d seats of %d", len(got), len(l))
		}
		for i := range got {
			if got[i].Id != l[i].Id || got[i].Cores != l[i].Cores {
				t.Fatalf("%v of %v", got[i], l[i])
			}
		}
	}
}

// P15.3, R4
func TestSettleOfNothingToMove(t *testing.T) {
	for _, online := range []uint64{0, 1, 3, 1 << 63, every} {
		for _, l := range [][]api.Seat{nil, {}, on(1), on(1, 1), may(0, on(5)), may(1, on(5)), on(0, 0, 1)} {
			if got, many := settle(t, l, online); many != 0 || !slices.Equal(got, l) {
				t.Errorf("%d moves of %v", many, l)
			}
		}
	}
	for core := range 5 {
		if got, many := settle(t, on(5, 1, 0, 2, 3), 1<<core); many != 0 || !slices.Equal(got, on(5, 1, 0, 2, 3)) {
			t.Errorf("%d moves on a core alone", many)
		}
	}
}

// P15.3, P15.4: all loads from 0 to 4 of four cores.
func TestSettleOfAllLoads(t *testing.T) {
	for x := range 5 * 5 * 5 * 5 {
		l := on(x%5, x/5%5, x/25%5, x/125)
		for _, online := range []uint64{3, 5, 7, 14, 15, every} {
			got, _ := settle(t, l, online)
			spread(t, got, online, 1)
		}
	}
}

// P15.3: all that three seats may be on three cores.
func TestSettleOfAllFewSeats(t *testing.T) {
	for x := range 24 * 24 * 24 {
		l := make([]api.Seat, 3)
		for i, n := range []int{x % 24, x / 24 % 24, x / 24 / 24} {
			l[i] = api.Seat{Id: 3 - i, Core: n % 3, Cores: uint64(n / 3)}
		}
		for _, online := range []uint64{7, 6, 5} {
			got, _ := settle(t, l, online)
			rests(t, got, online)
		}
	}
}

// P15.3
func TestSettleOfAnySeats(t *testing.T) {
	c := chance(1506)
	moved := 0
	for range 4000 {
		online := c.set()
		got, many := settle(t, c.people(c.upTo(30), 1+c.upTo(5)), online)
		spread(t, got, online, maxInt)
		moved += many
	}
	for range 100 {
		online := every &^ (c.next() & c.next())
		got, many := settle(t, c.people(c.upTo(300), 1+c.upTo(63)), online)
		spread(t, got, online, maxInt)
		moved += many
	}
	if moved < 4000 {
		t.Errorf("%d moves", moved)
	}
}

// P15.3: seats that may be on few cores beside each other go from core to core.
func TestSettleOfChains(t *testing.T) {
	c := chance(1507)
	for range 60 {
		l := c.people(100, 3)
		for i := range l {
			l[i].Core = max(0, min(63, l[i].Core)) & 15
			l[i].Cores = 7 << max(0, l[i].Core+c.upTo(3)-2)
		}
		got, _ := settle(t, l, every>>40)
		rests(t, got, every>>40)
	}
}

// P15.3: of seats of which two have one Id it ends, too.
func TestSettleEndsWhereIdsAreTwice(t *testing.T) {
	// The first of the Id 1 is on a core from which it can't move; the second one is the seat that can.
	settle(t, []api.Seat{{Id: 1, Core: 1, Cores: 2}, {Id: 1, Core: 0, Cores: 3}, {Id: 1, Core: 0, Cores: 3}, {Id: 1, Core: 0, Cores: 3}, {Id: 1, Core: 0, Cores: 3}}, 3)
	settle(t, []api.Seat{{Id: 1, Core: 0, Cores: 1}, {Id: 1, Core: 0, Cores: 7}, {Id: 1, Core: 0, Cores: 7}, {Id: 1, Core: 1, Cores: 7}}, 7)
	settle(t, []api.Seat{{Id: 1, Core: -1, Cores: 3}, {Id: 1, Core: 0, Cores: 3}, {Id: 1, Core: 0, Cores: 3}}, 3)
	same := on(40, 0, 3, 0, 7)
	for i := range same {
		same[i].Id = 5
	}
	settle(t, same, every)
	c := chance(1508)
	for range 3000 {
		settle(t, c.seats(c.upTo(40), 1+c.upTo(9)), c.set())
		few := c.seats(c.upTo(40), 1+c.upTo(5))
		for i := range few {
			few[i].Id &= 1
		}
		settle(t, few, every)
	}
}

// P15.3, R1: seats on no core stay there.
func TestSettleOfWildNumbers(t *testing.T) {
	var l []api.Seat
	for i, core := range wild() {
		l = append(l, api.Seat{Id: i, Core: core, Cores: every})
	}
	if got, many := settle(t, l, every); many != 0 || !slices.Equal(got, l) {
		t.Error(many, got)
	}
	for i := range 10 {
		l = append(l, api.Seat{Id: -1 - i, Core: 63, Cores: every})
	}
	got, many := settle(t, l, 1<<63|1<<62|1)
	if many != 6 || !slices.Equal(got[:len(wild())], l[:len(wild())]) {
		t.Error(many, got)
	}
}

// P15.4: each move makes the squares less.
func TestEachMoveMakesTheSquaresLess(t *testing.T) {
	c := chance(1509)
	for range 300 {
		l, online := c.people(c.upTo(60), 1+c.upTo(9)), c.set()
		want, many := settle(t, l, online)
		most := squares(l)
		for range many {
			was := squares(l)
			id, to, ok := balance(t, l, online)
			at := slices.IndexFunc(l, func(s api.Seat) bool { return s.Id == id })
			if !ok || at < 0 || !has(l[at].Cores&online, to) {
				t.Fatalf("%d to %d (%v): of %s", id, to, ok, short(l))
			}
			l[at].Core = to
			if squares(l) >= was {
				t.Fatalf("squares %d, then %d: of %s", was, squares(l), short(l))
			}
		}
		if !slices.Equal(l, want) || squares(l) > most {
			t.Fatalf("%s by its moves, %s at once", short(l), short(want))
		}
		rests(t, l, online)
	}
}

// P15.4: where each may be everywhere the loads differ by 1 at most.
func TestSettledLoadsDifferByOne(t *testing.T) {
	c := chance(1510)
	for range 500 {
		online := c.set()
		l := c.people(c.upTo(200), 1+c.upTo(20))
		for i := range l {
			l[i].Cores |= online
		}
		got, _ := settle(t, l, online)
		spread(t, got, online, 1)
	}
	for many := range 200 {
		got, moved := settle(t, on(0, many), every)
		spread(t, got, every, 1)
		if moved != many-(many+63)/64 && moved != many-many/64 {
			t.Errorf("%d moves of %d seats", moved, many)
		}
	}
}

// P15.3, R1: as many as a board has.
func TestSettleOfManySeats(t *testing.T) {
	l := on(0, 4096)
	got, moved := load.Settle(l, every)
	spread(t, got, every, 1)
	if moved != 4096-64 {
		t.Error(moved)
	}
	c := chance(1511)
	l = c.seats(20000, 3)
	for i := range l {
		l[i].Id = 20000 - i
	}
	got, _ = load.Settle(l, every)
	rests(t, got, every)
}

// P15.3, R5
func TestSettledSeatsAreMemoryOfTheirOwn(t *testing.T) {
	for _, l := range [][]api.Seat{on(6), on(1, 1)} {
		was := slices.Clone(l)
		got, _ := load.Settle(l, 7)
		want := slices.Clone(got)
		for i := range got {
			got[i] = api.Seat{Id: -1}
		}
		if !slices.Equal(l, was) {
			t.Errorf("%v has become %v", was, l)
		}
		again, _ := load.Settle(l, 7)
		clear(l)
		if !slices.Equal(again, want) {
			t.Errorf("%v, then %v", want, again)
		}
	}
}

// P15.3, R6: what was told before plays no part.
func TestSettleHangsOnItsArguments(t *testing.T) {
	c := chance(1512)
	for range 200 {
		l, online := c.seats(40, 5), c.set()
		got, many := load.Settle(l, online)
		load.Settle(c.seats(9, 3), c.set())
		if again, more := load.Settle(l, online); !slices.Equal(again, got) || more != many {
			t.Fatalf("%v, %d, then %v, %d", got, many, again, more)
		}
	}
}
