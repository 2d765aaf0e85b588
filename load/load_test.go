package load_test

import (
	"slices"
	"testing"

	"diapause/api"
	"diapause/load"
)

// P15.1
func TestLoadsCountSeatsOfEachCore(t *testing.T) {
	l := []api.Seat{{Id: 1, Core: 2}, {Id: 2, Core: 0, Cores: 4}, {Id: 1, Core: 2}, {Id: 3, Core: 63}, {Id: 0, Core: 2, Cores: every}}
	if got := loads(t, l, 3); !slices.Equal(got, []int{1, 0, 3}) {
		t.Error(got)
	}
	if got := loads(t, l, 2); !slices.Equal(got, []int{1, 0}) {
		t.Error(got)
	}
	if got := loads(t, l, 64); got[63] != 1 || got[2] != 3 || got[62] != 0 {
		t.Error(got)
	}
}

// P15.1
func TestLoadsOfEachCoreAndCount(t *testing.T) {
	for cores := -3; cores <= 70; cores++ {
		var all []api.Seat
		for core := -3; core <= 70; core++ {
			loads(t, []api.Seat{{Id: 5, Core: core, Cores: 1}}, cores)
			for range core + 4 {
				all = append(all, api.Seat{Core: core})
			}
		}
		got := loads(t, all, cores)
		if len(got) != min(max(cores, 0), 64) {
			t.Fatalf("%d loads of %d cores", len(got), cores)
		}
		for core, n := range got {
			if n != core+4 {
				t.Fatalf("core %d of %d has the load %d", core, cores, n)
			}
		}
	}
}

// P15.1, R1
func TestLoadsOfWildNumbers(t *testing.T) {
	var all []api.Seat
	for _, core := range wild() {
		all = append(all, api.Seat{Id: core, Core: core, Cores: every})
		loads(t, []api.Seat{{Id: 1, Core: core, Cores: every}}, 64)
	}
	for _, cores := range append(wild(), 0, 1, 63) {
		got := loads(t, all, cores)
		if slices.ContainsFunc(got, func(n int) bool { return n != 0 }) {
			t.Errorf("%d cores have %v of no seats", cores, got)
		}
		loads(t, on(3, 0, 1), cores)
	}
}

// P15.1, R4
func TestLoadsOfNoSeats(t *testing.T) {
	for _, cores := range []int{minInt, -1, 0, 1, 2, 63, 64, 65, maxInt} {
		for _, seats := range [][]api.Seat{nil, {}} {
			got := load.Loads(seats, cores)
			if !slices.Equal(got, make([]int, min(max(cores, 0), 64))) {
				t.Errorf("%d cores have %v of no seats", cores, got)
			}
		}
	}
}

// P15.1, R5, R6
func TestLoadsAreMemoryOfTheirOwn(t *testing.T) {
	seats := on(2, 1, 3)
	first := load.Loads(seats, 3)
	second := load.Loads(seats, 3)
	first[0], first[1], first[2] = 9, 9, 9
	_ = append(first, 9)
	if !slices.Equal(second, []int{2, 1, 3}) || !slices.Equal(load.Loads(seats, 3), second) {
		t.Error(second)
	}
}

// P15.1
func TestLoadsOfAnySeats(t *testing.T) {
	c := chance(1501)
	for range 2000 {
		loads(t, c.seats(c.upTo(40), 1+c.upTo(63)), c.upTo(70)-3)
	}
}

// P15.1
func TestChooseTheLeastLoad(t *testing.T) {
	for _, x := range []struct {
		cores uint64
		loads []int
		want  int
	}{
		{7, []int{3, 1, 2}, 1},
		{7, []int{3, 2, 1}, 2},
		{7, []int{1, 2, 3}, 0},
		{7, []int{2, 1, 1}, 1}, // the least one of two
		{5, []int{2, 0, 2}, 0},
		{6, []int{0, 5, 9}, 1},         // 0 is in no set
		{12, []int{5, 5, 3}, 2},        // 3 has no load
		{8, []int{5, 5, 3}, -1},        // nor is there another one
		{0, []int{0, 0}, -1},           // no core
		{every, nil, -1},               // no loads
		{every, []int{-1, -3, -3}, 1},  // below 0
		{every, []int{maxInt}, 0},      // as great as can be
		{3, []int{maxInt, minInt}, 1},  // held against each other as they are
		{3, []int{minInt, maxInt}, 0},  //
		{every, []int{1, 0, 0, 0}, 1},  //
		{1 << 63, make([]int, 64), 63}, // the last one
		{1 << 63, make([]int, 63), -1},
	} {
		if got := choose(t, x.cores, x.loads); got != x.want {
			t.Errorf("Choose(%x, %v) = %d, not %d", x.cores, x.loads, got, x.want)
		}
	}
}

// P15.1
func TestChooseOfAllFewLoads(t *testing.T) {
	var try func(l []int)
	try = func(l []int) {
		for cores := range uint64(32) {
			choose(t, cores, l)
			choose(t, cores|1<<63|1<<31, l)
		}
		if len(l) == 4 {
			return
		}
		for n := range 4 {
			try(append(slices.Clone(l), n-1))
		}
	}
	try(nil)
}

// P15.1
func TestChooseByEachCoreAndLength(t *testing.T) {
	for many := range 70 {
		same := make([]int, many)
		for core := range 64 {
			got := choose(t, 1<<core, same)
			if core < many && got != core || core >= many && got != -1 {
				t.Fatalf("core %d of %d: %d", core, many, got)
			}
			choose(t, every<<core, same)
			one := make([]int, many)
			if core < many {
				one[core] = -1
				if choose(t, every, one) != core {
					t.Fatalf("core %d of %d is not the least", core, many)
				}
				choose(t, every&^(1<<core), one)
			}
		}
	}
}

// P15.1: what is behind the 64th load is no core's.
func TestChooseOfMoreLoadsThanCores(t *testing.T) {
	for _, many := range []int{65, 66, 128, 1000, 70000} {
		l := make([]int, many)
		for i := range l {
			l[i] = -i
		}
		for _, cores := range []uint64{every, 1, 3, 1 << 63, 1<<63 | 1, 0} {
			if got := choose(t, cores, l); got > 63 {
				t.Fatalf("Choose(%x) of %d loads = %d", cores, many, got)
			}
		}
	}
}

// P15.1
func TestChooseOfAnyLoads(t *testing.T) {
	c := chance(1502)
	for range 20000 {
		l := make([]int, c.upTo(70))
		most := c.upTo(5)
		for i := range l {
			l[i] = c.upTo(most)
			if c.upTo(30) == 0 {
				l[i] = int(c.next())
			}
		}
		choose(t, c.set(), l)
	}
}
