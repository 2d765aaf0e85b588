package load_test

import (
	"testing"

	"diapause/api"
	"diapause/load"
)

// moves fails if the move isn't that of the Id to the core.
func moves(t *testing.T, seats []api.Seat, online uint64, id, to int) {
	t.Helper()
	if i, c, ok := balance(t, seats, online); i != id || c != to || !ok {
		t.Errorf("%d to %d (%v), not %d to %d: of %s", i, c, ok, id, to, short(seats))
	}
}

// rests fails if there is a move.
func rests(t *testing.T, seats []api.Seat, online uint64) {
	t.Helper()
	if id, to, ok := balance(t, seats, online); id != 0 || to != 0 || ok {
		t.Errorf("%d to %d (%v): of %s", id, to, ok, short(seats))
	}
}

// P15.2: the chapter's example.
func TestBalanceOfTheExample(t *testing.T) {
	l := may(3, on(3))
	moves(t, l, every, 1, 1)
	l[0].Core = 1
	rests(t, l, every)
}

// P15.2: the load of the other core, and one, is below that of its own.
func TestBalanceNeedsTwoSeatsMore(t *testing.T) {
	for own := range 5 {
		for other := range 5 {
			l := may(3, on(own, other))
			switch {
			case own > other+1:
				moves(t, l, 3, 1, 1)
			case other > own+1:
				moves(t, l, 3, own+1, 0)
			default:
				rests(t, l, 3)
			}
		}
	}
}

// P15.2: the greatest load first, of the same load the least core.
func TestBalanceGoesThroughCoresByLoad(t *testing.T) {
	moves(t, on(2, 4, 3, 0), 15, 3, 3)
	moves(t, on(4, 2, 3, 0), 15, 1, 3)
	moves(t, on(2, 3, 4, 0), 15, 6, 3)
	moves(t, on(0, 3, 3, 2), 15, 1, 0)
	moves(t, on(0, 2, 3, 3), 15, 3, 0)
	// Ids play no part between cores.
	l := on(2, 3, 3, 0)
	for i := range l {
		l[i].Id = 100 - i
	}
	moves(t, l, 15, 96, 3)
}

// P15.2: a core whose seats can't move is left for the next one.
func TestBalanceLeavesCoresThatCannot(t *testing.T) {
	l := append(may(1, on(5)), api.Seat{Id: 20, Core: 1, Cores: 7}, api.Seat{Id: 21, Core: 1, Cores: 7}, api.Seat{Id: 22, Core: 1, Cores: 7})
	moves(t, l, 7, 20, 2)
	l = append(l, api.Seat{Id: 30, Core: 2, Cores: 7}, api.Seat{Id: 31, Core: 2, Cores: 7})
	rests(t, l, 7)
	rests(t, l, 15)
	l[len(l)-1].Cores = 8 // it alone may be on core 3
	moves(t, l, 15, 31, 3)
}

// P15.2: the least Id of its seats first, of the same Id the one that stands first.
func TestBalanceGoesThroughSeatsById(t *testing.T) {
	for _, x := range []struct {
		ids  []int
		want int
	}{
		{[]int{1, 2, 3}, 1}, {[]int{3, 2, 1}, 1}, {[]int{2, 1, 3}, 1}, {[]int{0, -1, 5}, -1}, {[]int{5, 0, 7}, 0},
		{[]int{maxInt, minInt, 0}, minInt}, {[]int{maxInt, maxInt - 1, maxInt}, maxInt - 1}, {[]int{-1, -2, -3}, -3},
	} {
		var l []api.Seat
		for _, id := range x.ids {
			l = append(l, api.Seat{Id: id, Core: 1, Cores: 3})
		}
		moves(t, l, 3, x.want, 0)
	}
	l := []api.Seat{{Id: 4, Core: 0, Cores: 1 << 3}, {Id: 2, Core: 0, Cores: 1 << 2}, {Id: 2, Core: 0, Cores: 1 << 1}, {Id: 2, Core: 0, Cores: 1 << 3}}
	moves(t, l, every, 2, 2)
	l[1], l[2] = l[2], l[1]
	moves(t, l, every, 2, 1)
	l[1].Cores = 1 // this one stays, and the next one with the Id goes
	moves(t, l, every, 2, 2)
	l[2].Cores, l[3].Cores = 0, 1
	moves(t, l, every, 4, 3)
}

// P15.2: the core is the one with the least load of those where the seat may be, online, the least one of the same load.
func TestBalanceChoosesTheCore(t *testing.T) {
	l := on(5, 2, 1, 1, 0)
	moves(t, l, every, 1, 4)
	moves(t, l, 31, 1, 4)
	moves(t, l, 15, 1, 2)
	moves(t, may(1|2|8, l), 31, 1, 3)
	moves(t, may(1|2, l), 31, 1, 1)
	rests(t, may(1, l), 31)
	rests(t, may(0, l), 31)
	rests(t, may(1<<7, l), 31)
	l[0].Cores = 2
	moves(t, l, 31, 1, 1) // the first seat goes where it may, not the one that may go to the emptiest core
	l = on(3, 2, 0)
	l[0].Cores = 3
	moves(t, l, 7, 2, 2)
	l[0].Cores = 4
	moves(t, l, 7, 1, 2)
}

// P15.2: seats on cores that aren't online count there, and stay; none goes to such a core.
func TestBalanceOfCoresThatAreOff(t *testing.T) {
	l := on(5, 2, 0, 1)
	rests(t, l, 0)
	for core := range 4 {
		rests(t, l, 1<<core)
	}
	moves(t, l, 2|4, 6, 2)
	moves(t, l, 1|2, 1, 1)
	rests(t, l, 2|8)
	rests(t, on(9, 1, 1), 6)
	rests(t, on(9, 0, 0), 6)
	moves(t, l, every, 1, 2)
}

// P15.2: where a seat is need not be where it may be.
func TestBalanceOfSeatsThatMayNotBeThere(t *testing.T) {
	moves(t, may(2, on(2)), 3, 1, 1)
	rests(t, may(2, on(1)), 3)
	rests(t, may(2, on(2, 1)), 3)
	moves(t, may(1<<63, on(0, 2)), every, 1, 63)
}

// P15.2, R1: seats on no core count nowhere.
func TestBalanceOfWildNumbers(t *testing.T) {
	for _, core := range wild() {
		l := append(on(1, 2), api.Seat{Id: -9, Core: core, Cores: every}, api.Seat{Id: -8, Core: core, Cores: every}, api.Seat{Id: -7, Core: core, Cores: every})
		rests(t, l, 3)
		moves(t, l, 7, 2, 2)
		moves(t, append(l, api.Seat{Id: 9, Core: 1, Cores: 1}, api.Seat{Id: 10, Core: 1, Cores: 1}), 3, 2, 0)
		rests(t, l[3:], every)
	}
}

// P15.2, R4
func TestBalanceOfNoSeats(t *testing.T) {
	for _, online := range []uint64{0, 1, 3, 1 << 63, every} {
		rests(t, nil, online)
		rests(t, []api.Seat{}, online)
		rests(t, on(1), online)
	}
}

// P15.2: each core beside each other one.
func TestBalanceFromEachCoreToEach(t *testing.T) {
	for own := range 64 {
		for other := range 64 {
			l := []api.Seat{{Id: 7, Core: own, Cores: 1 << other}, {Id: 6, Core: own, Cores: 1 << own}}
			for _, online := range []uint64{every, 1<<own | 1<<other, every &^ (1 << other), every &^ (1 << own)} {
				if own != other && has(online, own) && has(online, other) {
					moves(t, l, online, 7, other)
				} else {
					rests(t, l, online)
				}
			}
		}
	}
}

// P15.2: all that three seats may be on three cores, and all that may be online.
func TestBalanceOfAllFewSeats(t *testing.T) {
	for x := range 24 * 24 * 24 {
		l := make([]api.Seat, 3)
		for i, n := range []int{x % 24, x / 24 % 24, x / 24 / 24} {
			l[i] = api.Seat{Id: 3 - i, Core: n % 3, Cores: uint64(n / 3)}
		}
		for online := range uint64(8) {
			balance(t, l, online)
		}
	}
}

// P15.2: all loads from 0 to 4 of four cores.
func TestBalanceOfAllLoads(t *testing.T) {
	for x := range 5 * 5 * 5 * 5 {
		l := on(x%5, x/5%5, x/25%5, x/125)
		for online := range uint64(16) {
			balance(t, l, online)
		}
	}
}

// P15.2, R5: whatever Ids there are, and whatever is on no core.
func TestBalanceOfAnySeats(t *testing.T) {
	c := chance(1503)
	is := 0
	for range 20000 {
		l := c.seats(c.upTo(30), 1+c.upTo(5))
		if _, _, ok := balance(t, l, c.set()); ok {
			is++
		}
	}
	for range 1500 {
		l := c.seats(c.upTo(300), 1+c.upTo(63))
		if _, _, ok := balance(t, l, every&^(c.next()&c.next())); ok {
			is++
		}
	}
	if is < 4000 || is > 19000 {
		t.Errorf("%d moves", is)
	}
}

// P15.2, R6: what was told before plays no part.
func TestBalanceHangsOnItsArguments(t *testing.T) {
	c := chance(1504)
	for range 200 {
		l, online := c.seats(40, 5), c.set()
		id, to, ok := load.Balance(l, online)
		load.Settle(l, every)
		load.Balance(c.seats(9, 3), c.set())
		if i, o, k := load.Balance(l, online); i != id || o != to || k != ok {
			t.Fatalf("%d, %d, %v, then %d, %d, %v", id, to, ok, i, o, k)
		}
	}
}
