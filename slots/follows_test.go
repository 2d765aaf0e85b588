package slots_test

import (
	"slices"
	"strings"
	"testing"

	"diapause/api"
	"diapause/disk"
	"diapause/slots"
)

// deed is a call that changes what a store has: its name is the image that is committed, but for one.
type deed string

const deleted = deed("\xffdelete")

func (x deed) do(s *slots.Store) api.Errno {
	if x == deleted {
		return s.Delete()
	}
	return s.Commit([]byte(x))
}

// then is what there is, when it was done.
func (x deed) then(m state) state {
	if x == deleted {
		return state{age: m.age + 1}
	}
	return state{m.age + 1, true, string(x)}
}

// parts is how many sectors of a slot it writes, and calls how many calls it makes of the disk ahead of its head.
func (x deed) parts() int {
	if x == deleted {
		return 0
	}
	return (len(x) + sectorBytes - 1) / sectorBytes
}

func (x deed) ahead() int {
	if x == deleted {
		return 0
	}
	return x.parts() + 1
}

// deeds are some: from none to two slots' sectors and more.
func deeds() []deed {
	return []deed{deleted, "", "short", deed(strings.Repeat("a", 64)), deed(strings.Repeat("b", 65)), deed(strings.Repeat("c", 192))}
}

// histories are what may have been done ahead of a crash.
func histories() [][]deed {
	long := deed(strings.Repeat("old", 50))
	return [][]deed{{}, {"one"}, {""}, {long}, {"one", deleted}, {"one", "two"}, {long, long}, {"one", "two", deleted}, {"one", deleted, "three"}, {"one", deleted, "three", "four", "five"}, {"", "", ""}}
}

// lived is a disk of so many sectors on which these were done, and what is there then, and was ahead of the last one.
func lived(t *testing.T, sectors int, l []deed) (d *disk.Disk, now, before state) {
	t.Helper()
	d = disk.New(sectors)
	s := opened(t, d)
	for _, x := range l {
		must(t, x.do(s))
		now, before = x.then(now), now
	}
	if told(s) != now {
		t.Fatalf("%v, not %v", told(s), now)
	}
	return d, now, before
}

// bits is a number's, as so many bools.
func bits(n, many int) []bool {
	var l []bool
	for i := range many {
		l = append(l, n>>i&1 == 1)
	}
	return l
}

func TestEachCrash(t *testing.T) { // P11.4, T2: at each call, whatever is kept of what waits
	for _, sectors := range []int{8, 9} {
		for _, history := range histories() {
			for _, x := range deeds() {
				for calls := range x.ahead() + 4 {
					crashes(t, sectors, history, x, calls)
				}
			}
		}
	}
}

// crashes lets a crash come when so many calls were made, with each choice of what is kept.
func crashes(t *testing.T, sectors int, history []deed, x deed, calls int) {
	t.Helper()
	waits := 1
	for n := 0; n < 1<<waits; n++ {
		d, old, _ := lived(t, sectors, history)
		s := opened(t, d)
		d.Arm(calls)
		e := x.do(s)
		if e == api.ErrNone {
			return
		}
		if (e == api.OK) != (calls >= x.ahead()+2) {
			t.Fatalf("%q, %d calls: %v", x, calls, e)
		}
		waits = len(d.Waits())
		d.Crash(bits(n, waits))
		want := old
		if e == api.OK || calls == x.ahead()+1 && n == 1 {
			want = x.then(old)
		}
		again := opened(t, d)
		if told(again) != want {
			t.Fatalf("%d sectors, %q, %q, %d calls, %b is kept: %v, not %v", sectors, history, x, calls, n, told(again), want)
		}
		// And it goes on from there.
		for _, y := range []deed{"what comes", deleted, "and goes"} {
			must(t, y.do(again))
			want = y.then(want)
			if told(again) != want || told(opened(t, d)) != want {
				t.Fatalf("%v, not %v", told(again), want)
			}
		}
	}
}

func TestCrashBehindCrash(t *testing.T) { // P11.4: as long as the disk is opened again in between
	c := chance(7)
	for range 400 {
		d := disk.New(4 + c.upTo(7))
		old := state{}
		for range 30 {
			s := opened(t, d)
			if told(s) != old {
				t.Fatalf("%v, not %v", told(s), old)
			}
			x := deed(c.text(c.upTo(s.Room())))
			if c.upTo(4) == 0 {
				x = deleted
			}
			d.Arm(c.upTo(x.ahead() + 3))
			e := x.do(s)
			d.Crash(c.bools(c.upTo(5)))
			young, got := x.then(old), told(opened(t, d))
			if got != old && got != young || e == api.OK && got != young || e == api.ErrNone && got != old {
				t.Fatalf("%v: %v, not %v or %v", e, got, old, young)
			}
			old = got
		}
	}
}

// turned is the bits of what a state's head and image are on a disk: their sectors, and their numbers there.
func turned(sectors int, m state) [][2]int {
	var l [][2]int
	if m.age == 0 {
		return nil
	}
	for bit := range 8 * sectorBytes {
		l = append(l, [2]int{m.age % 2, bit})
	}
	for bit := range 8 * len(m.image) {
		l = append(l, [2]int{begin(sectors, m.age%2) + bit/512, bit % 512})
	}
	return l
}

// rot turns bits over.
func rot(d *disk.Disk, l ...[2]int) {
	for _, x := range l {
		d.Rot(x[0], x[1])
	}
}

func TestEachBitThatIsTurnedOver(t *testing.T) { // P11.4: of what is newest, of what was there before it, and of neither
	for _, history := range histories() {
		const sectors = 9
		d, now, before := lived(t, sectors, history)
		newest, older := turned(sectors, now), turned(sectors, before)
		for i := range sectors {
			for bit := range 512 {
				want, at := now, [2]int{i, bit}
				if slices.Contains(newest, at) {
					want = before
				}
				rot(d, at)
				if got := told(opened(t, d)); got != want {
					t.Fatalf("%q, %v: %v, not %v", history, at, got, want)
				}
				rot(d, at)
			}
		}
		// And a bit of each.
		c := chance(len(history))
		for range 300 {
			if before.age == 0 {
				continue
			}
			one, two := newest[c.upTo(len(newest)-1)], older[c.upTo(len(older)-1)]
			rot(d, one, two)
			if got := told(opened(t, d)); got != (state{}) {
				t.Fatalf("%q, %v and %v: %v", history, one, two, got)
			}
			rot(d, one, two)
		}
		if told(opened(t, d)) != now {
			t.Fatal("it isn't as it was")
		}
	}
}

func TestRunsOfBitsThatAreTurnedOver(t *testing.T) { // P11.4: up to 32 in a row, in a head's sector or in an image, each with its first and its last one
	c := chance(8)
	for _, history := range histories() {
		const sectors = 8
		d, now, before := lived(t, sectors, history)
		newest := turned(sectors, now)
		for range 2000 {
			if now.age == 0 {
				continue
			}
			run := newest[:512]
			if now.image != "" && c.upTo(1) == 0 {
				run = newest[512:]
			}
			first := c.upTo(len(run) - 1)
			last := first + c.upTo(min(31, len(run)-1-first))
			l := [][2]int{run[first]}
			for k := first + 1; k < last; k++ {
				if c.upTo(1) == 0 {
					l = append(l, run[k])
				}
			}
			if last > first {
				l = append(l, run[last])
			}
			rot(d, l...)
			if got := told(opened(t, d)); got != before {
				t.Fatalf("%q, %v: %v, not %v", history, l, got, before)
			}
			rot(d, l...)
		}
	}
}

func TestWhatIsFoundGoesOn(t *testing.T) { // P11.4, P11.2: behind bits that were turned over the next age is that of what was spoiled
	for _, history := range histories()[1:] {
		d, now, before := lived(t, 8, history)
		rot(d, [2]int{now.age % 2, 40})
		s := opened(t, d)
		want := before
		for _, x := range []deed{"next", deleted, deed(strings.Repeat("last", 30))} {
			must(t, x.do(s))
			want = x.then(want)
			if told(s) != want || told(opened(t, d)) != want {
				t.Fatalf("%q: %v, not %v", history, told(s), want)
			}
		}
	}
}
