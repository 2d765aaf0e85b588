package load_test

import (
	"fmt"
	"slices"
	"testing"

	"diapause/api"
	"diapause/load"
)

const (
	maxCores = 64
	maxInt   = 1<<63 - 1
	minInt   = -1 << 63
	every    = 1<<64 - 1
)

// chance is numbers without a pattern, the same ones each time.
type chance uint64

func (c *chance) next() uint64 {
	*c = *c*6364136223846793005 + 1442695040888963407
	return uint64(*c) ^ uint64(*c)>>29
}

// upTo is a number from 0 to most, all of them as frequent.
func (c *chance) upTo(most int) int {
	return int((c.next() >> 8) % uint64(most+1))
}

// has tells whether a core is in a set.
func has(cores uint64, core int) bool {
	return core >= 0 && core < maxCores && cores>>core&1 == 1
}

// modelLoads is P15.1.
func modelLoads(seats []api.Seat, cores int) []int {
	if cores < 0 {
		cores = 0
	}
	if cores > maxCores {
		cores = maxCores
	}
	var l []int
	for core := range cores {
		many := 0
		for _, s := range seats {
			if s.Core == core {
				many++
			}
		}
		l = append(l, many)
	}
	return l
}

// modelChoose is P15.1.
func modelChoose(cores uint64, loads []int) int {
	best := -1
	for core, n := range loads {
		if has(cores, core) && (best < 0 || n < loads[best]) {
			best = core
		}
	}
	return best
}

// modelMove is P15.2: the place of the seat, and the core to which it moves.
func modelMove(seats []api.Seat, online uint64) (place, to int, ok bool) {
	loads := modelLoads(seats, maxCores)
	left := online
	for left != 0 {
		core := -1
		for c, n := range loads {
			if has(left, c) && (core < 0 || n > loads[core]) {
				core = c
			}
		}
		left &^= 1 << core
		for _, place := range modelSeats(seats, core) {
			to := modelChoose(seats[place].Cores&online, loads)
			if to >= 0 && loads[to]+1 < loads[core] {
				return place, to, true
			}
		}
	}
	return 0, 0, false
}

// modelSeats are the places of a core's seats, in the order in which they are asked.
func modelSeats(seats []api.Seat, core int) []int {
	var l []int
	for place, s := range seats {
		if s.Core == core {
			l = append(l, place)
		}
	}
	slices.SortStableFunc(l, func(a, b int) int {
		switch {
		case seats[a].Id < seats[b].Id:
			return -1
		case seats[a].Id > seats[b].Id:
			return 1
		}
		return 0
	})
	return l
}

// modelSettle is P15.3, for seats of which no two have one Id.
func modelSettle(seats []api.Seat, online uint64) ([]api.Seat, int) {
	l := slices.Clone(seats)
	for moves := 0; ; moves++ {
		place, to, ok := modelMove(l, online)
		if !ok {
			return l, moves
		}
		l[place].Core = to
	}
}

// squares are those of the loads, together.
func squares(seats []api.Seat) int {
	sum := 0
	for _, n := range modelLoads(seats, maxCores) {
		sum += n * n
	}
	return sum
}

// short is a thing as a text, of a long one the beginning.
func short(x any) string {
	text := fmt.Sprintf("%v", x)
	if len(text) > 900 {
		return text[:900] + ".."
	}
	return text
}

// roomy is a list with room behind it, in which something lies, and all of it as it was.
func roomy[T any](l []T, behind T) (own, all, was []T) {
	all = append(slices.Clone(l), behind, behind, behind)
	return all[:len(l)], all, slices.Clone(all)
}

// behind is what lies behind seats: it would move, if it were one of them.
var behind = api.Seat{Id: 1, Core: 0, Cores: every}

// loads tells loads, and fails where they aren't what the model tells, or what was handed in has changed.
func loads(t *testing.T, seats []api.Seat, cores int) []int {
	t.Helper()
	own, all, was := roomy(seats, behind)
	got, want := load.Loads(own, cores), modelLoads(seats, cores)
	if !slices.Equal(got, want) {
		t.Fatalf("Loads(%s, %d) = %v, not %v", short(seats), cores, got, want)
	}
	if !slices.Equal(all, was) {
		t.Fatalf("Loads(%s, %d) has made %s of them", short(was), cores, short(all))
	}
	return got
}

// choose chooses, likewise.
func choose(t *testing.T, cores uint64, loads []int) int {
	t.Helper()
	own, all, was := roomy(loads, minInt)
	got, want := load.Choose(cores, own), modelChoose(cores, loads)
	if got != want {
		t.Fatalf("Choose(%x, %v) = %d, not %d", cores, loads, got, want)
	}
	if !slices.Equal(all, was) {
		t.Fatalf("Choose(%x, %v) has made %v of them", cores, was, all)
	}
	return got
}

// balance tells a move, likewise.
func balance(t *testing.T, seats []api.Seat, online uint64) (id, to int, ok bool) {
	t.Helper()
	own, all, was := roomy(seats, behind)
	id, to, ok = load.Balance(own, online)
	place, wantTo, want := modelMove(seats, online)
	wantId := 0
	if want {
		wantId = seats[place].Id
	}
	if id != wantId || to != wantTo || ok != want {
		t.Fatalf("Balance(%s, %x) = %d, %d, %v, not %d, %d, %v", short(seats), online, id, to, ok, wantId, wantTo, want)
	}
	if !slices.Equal(all, was) {
		t.Fatalf("Balance(%s, %x) has made %s of them", short(was), online, short(all))
	}
	return id, to, ok
}

// settle makes all moves, likewise: of seats of which two have one Id only that it ends, and what was handed in is asked.
func settle(t *testing.T, seats []api.Seat, online uint64) ([]api.Seat, int) {
	t.Helper()
	own, all, was := roomy(seats, behind)
	got, moves := load.Settle(own, online)
	if apart(seats) {
		want, many := modelSettle(seats, online)
		if !slices.Equal(got, want) || moves != many {
			t.Fatalf("Settle(%s, %x) = %s, %d, not %s, %d", short(seats), online, short(got), moves, short(want), many)
		}
	}
	if !slices.Equal(all, was) {
		t.Fatalf("Settle(%s, %x) has made %s of them", short(was), online, short(all))
	}
	return got, moves
}

// apart tells whether no two seats have one Id.
func apart(seats []api.Seat) bool {
	seen := map[int]bool{}
	for _, s := range seats {
		if seen[s.Id] {
			return false
		}
		seen[s.Id] = true
	}
	return true
}
