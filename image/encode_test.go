package image_test

import (
	"bytes"
	"math"
	"slices"
	"testing"

	"diapause/api"
	"diapause/image"
	"diapause/parcel"
	"diapause/scene"
)

func TestExample(t *testing.T) { // P14.1
	b, e := encode(t, chain(7, 1))
	if e != api.OK || len(b) != 62 || image.Size(chain(7, 1)) != 62 {
		t.Errorf("%x, %v", b, e)
	}
	if string(b[41:]) != "\x07\x00\x00\x00\x00\x00\x01\x00\x00"+"\x00\x00\x00\x00\x00\x00\x00\x00\x00\x00\x00\x00" {
		t.Errorf("%x", b[41:])
	}
}

func TestSectionsOfTheSmallScene(t *testing.T) { // P14.1: byte by byte
	b, e := encode(t, small())
	if e != api.OK || len(b) != 41+4*21+3*35 {
		t.Fatal(len(b), e)
	}
	l, e := parcel.Unpack(b)
	if e != api.OK || len(l) != 4 {
		t.Fatal(l, e)
	}
	for i, want := range []string{
		"\x03\x02\x01\x00\x00\x00\x03\x00\x00" + "\x14\x00\x00\x03\x02\x01\x00\x00\x10" + "\x3c\x00\x00\x14\x00\x00\x01\x00\x00" + "\x01\x02\x03\x03\x02\x01\x0d\x0e\x0f",
		"\x00\x00\x00\x00\x00\x00\x00\x00\x00\x00\x00\x00" + "\x0a\x00\x00\x0c\x0b\x0a\x00\x01\x02\x03\xf4\x00" + "\x07\x00\x00\x00\x00\x00\x00\x00\x00\x00\x00\x00" + "\x00\x00\x10\x00\x00\x10\x00\x00\x00\x00\x00\x01",
		"\x0a\x00\x00\x3c\x00\x00\x06\x05\x04\x00\xa5\xa4\xa3\xa2\xa1\x00\x18\x17\x16\x15\x14\x13\x12\x11\x05\x04\x03" +
			"\x28\x00\x00\x03\x02\x01\x01\x00\x00\x01\x09\x00\x00\x00\x00\x00\x00\x00\x00\x00\x00\x00\x00\x00\x00\x00\x00" +
			"\x00\x00\x10\x3c\x00\x00\x00\x00\x10\x00\x00\x00\x00\x00\x00\x01\x00\x00\x00\x00\x00\x00\x00\x20\xff\xff\x0f",
		"\x11\x22\x33\x44\x55\x66\x77\x88" + "\x00\x00\x00\x00\x00\x00\x00\x80" + "\x06\x00\x00\x00\x00\x00\x00\x00",
	} {
		if l[i].Kind != i+1 || string(l[i].Body) != want {
			t.Errorf("%d: %x, not %x", l[i].Kind, l[i].Body, want)
		}
	}
}

// spot is where a number of a group, or of a task, lies in the bodies, and what it may be.
type spot struct {
	name            string
	body, at, width int
	least, most     int
	set             func(s *api.Scene, i, n int)
}

// spots are all numbers of a last group, and of a last task, of which nothing else tells.
func spots() []spot {
	return []spot{
		{"group's Id", 0, 0, 3, 101, maxId, func(s *api.Scene, i, n int) { s.Groups[i].Id = n }},
		{"group's Weight", 0, 6, 3, 1, maxWeight, func(s *api.Scene, i, n int) { s.Groups[i].Weight = n }},
		{"Period", 1, 0, 3, 1, maxPeriod, func(s *api.Scene, i, n int) { s.Groups[i].Band.Period = n }},
		{"Quota", 1, 3, 3, 1, maxPeriod, func(s *api.Scene, i, n int) { s.Groups[i].Band.Quota = n }},
		{"Used", 1, 6, 6, 0, maxTicks, func(s *api.Scene, i, n int) { s.Groups[i].Band.Used = n }},
		{"task's Id", 2, 0, 3, 301, maxId, func(s *api.Scene, i, n int) { s.Tasks[i].Id = n }},
		{"task's Group", 2, 3, 3, 1, 3, func(s *api.Scene, i, n int) { s.Tasks[i].Group = n }},
		{"task's Weight", 2, 6, 3, 5, maxWeight, func(s *api.Scene, i, n int) { s.Tasks[i].Weight = n }},
		{"Asleep", 2, 9, 1, 0, 1, func(s *api.Scene, i, n int) { s.Tasks[i].Asleep = n == 1 }},
		{"Ran", 2, 10, 6, 0, maxTicks, func(s *api.Scene, i, n int) { s.Tasks[i].Ran = n }},
		{"V", 2, 16, 8, 0, maxFar, func(s *api.Scene, i, n int) { s.Tasks[i].Lag.V = n }},
		{"Rem", 2, 24, 3, 0, 4, func(s *api.Scene, i, n int) { s.Tasks[i].Lag.Rem = n }},
		{"Rem of the greatest weight", 2, 24, 3, 0, maxWeight - 1, func(s *api.Scene, i, n int) { s.Tasks[i].Weight, s.Tasks[i].Lag.Rem = maxWeight, n }},
		{"Cores", 3, 0, 8, 1, math.MaxInt, func(s *api.Scene, i, n int) { s.Tasks[i].Cores = uint64(n) }},
	}
}

// spare is a scene of groups and tasks, whose last group, and last task, can be changed in each number.
func spare(many int) api.Scene {
	s := chain(1, 3)
	for i := range many {
		s.Groups = append(s.Groups, api.GroupSnap{Id: 100 - many + 1 + i, Parent: 3, Weight: 9, Band: api.Band{Period: 5, Quota: 2, Used: 3}})
		s.Tasks = append(s.Tasks, api.TaskSnap{Id: 300 - many + 1 + i, Group: 2, Weight: 5, Cores: 8})
	}
	return s
}

// steps are numbers from least to most: the edges, and such as have each bit by itself.
func steps(least, most int) []int {
	l := []int{least, least + 1, most - 1, most}
	for n := 1; n > 0 && n <= most; n *= 2 {
		l = append(l, n, n-1, most-n+1, 0x0123456789abcdef&(2*n-1))
	}
	return slices.DeleteFunc(l, func(n int) bool { return n < least || n > most })
}

func TestEachNumberLiesAtItsPlace(t *testing.T) { // P14.1, P14.3: at each of its bits, and at its edges, and comes back
	rows := bodies{make([]byte, 9), make([]byte, 12), make([]byte, 27), make([]byte, 8)}
	for _, many := range []int{1, 2, 5} {
		for _, x := range spots() {
			for _, n := range steps(x.least, x.most) {
				s := spare(many)
				last := len(s.Groups) - 1
				if x.body > 1 {
					last = len(s.Tasks) - 1
				}
				x.set(&s, last, n)
				b, e := encode(t, s)
				tell(t, e, api.OK, s)
				l, _ := parcel.Unpack(b)
				if got := told(l[x.body].Body, last*len(rows[x.body])+x.at, x.width); got != n {
					t.Fatalf("%s of %d lies as %d", x.name, n, got)
				}
				if o, e := decode(t, b); e != api.OK || !same(o, s) {
					t.Fatalf("%s of %d: %v, %v", x.name, n, o, e)
				}
			}
		}
	}
}

func TestEachCore(t *testing.T) { // P14.1, P14.3
	for core := range 64 {
		for _, cores := range []uint64{1 << core, ^uint64(1 << core), 1<<core | 1, math.MaxUint64 << core} {
			s := small()
			s.Tasks[1].Cores = cores
			b, e := encode(t, s)
			tell(t, e, api.OK, s)
			if o, e := decode(t, b); e != api.OK || !same(o, s) {
				t.Fatalf("%x: %v, %v", cores, o, e)
			}
		}
	}
}

// wrongs are scenes that can't be, each with what is wrong, in the order in which chapter 13 names it.
func wrongs() []struct {
	s    api.Scene
	want api.Errno
} {
	with := func(by func(s *api.Scene)) api.Scene {
		s := small()
		by(&s)
		return s
	}
	return []struct {
		s    api.Scene
		want api.Errno
	}{
		{api.Scene{}, api.ErrShort},
		{api.Scene{Tasks: small().Tasks}, api.ErrShort},
		{fan(maxEach+1, 0), api.ErrFull},
		{fan(maxEach+1, 2000), api.ErrFull},
		{with(func(s *api.Scene) { s.Groups[0].Id = 0 }), api.ErrArg},
		{with(func(s *api.Scene) { s.Groups[3].Id = maxId + 1 }), api.ErrArg},
		{with(func(s *api.Scene) { s.Groups[1].Weight = 0 }), api.ErrArg},
		{with(func(s *api.Scene) { s.Groups[1].Weight = maxWeight + 1 }), api.ErrArg},
		{with(func(s *api.Scene) { s.Groups[1].Band.Period = 0 }), api.ErrArg},
		{with(func(s *api.Scene) { s.Groups[1].Band.Period = maxPeriod + 1 }), api.ErrArg},
		{with(func(s *api.Scene) { s.Groups[1].Band.Quota = maxPeriod + 1 }), api.ErrArg},
		{with(func(s *api.Scene) { s.Groups[1].Band.Used = maxTicks + 1 }), api.ErrArg},
		{with(func(s *api.Scene) { s.Groups[2].Band.Used = 1 }), api.ErrArg},
		{with(func(s *api.Scene) { s.Tasks[0].Id = 0 }), api.ErrArg},
		{with(func(s *api.Scene) { s.Tasks[2].Id = maxId + 1 }), api.ErrArg},
		{with(func(s *api.Scene) { s.Tasks[1].Weight = 0 }), api.ErrArg},
		{with(func(s *api.Scene) { s.Tasks[1].Weight = maxWeight + 1 }), api.ErrArg},
		{with(func(s *api.Scene) { s.Tasks[1].Cores = 0 }), api.ErrArg},
		{with(func(s *api.Scene) { s.Tasks[1].Ran = maxTicks + 1 }), api.ErrArg},
		{with(func(s *api.Scene) { s.Tasks[2].Lag.V = maxFar + 1 }), api.ErrArg},
		{with(func(s *api.Scene) { s.Tasks[2].Lag.V = math.MinInt }), api.ErrArg},
		{with(func(s *api.Scene) { s.Tasks[2].Lag.V = -1 }), api.ErrArg},
		{with(func(s *api.Scene) { s.Tasks[2].Lag.Rem = maxWeight }), api.ErrArg},
		{with(func(s *api.Scene) { s.Groups[2].Id = 10 }), api.ErrTwice},
		{with(func(s *api.Scene) { s.Tasks[1].Id = s.Tasks[0].Id }), api.ErrTwice},
		{with(func(s *api.Scene) { s.Groups[0].Parent = 20 }), api.ErrNone},
		{with(func(s *api.Scene) { s.Groups[2].Parent = 21 }), api.ErrNone},
		{with(func(s *api.Scene) { s.Tasks[0].Group = 10 }), api.ErrNone},
		{with(func(s *api.Scene) { s.Tasks[0].Group = 0 }), api.ErrNone},
		{with(func(s *api.Scene) { s.Groups[3].Parent = 0 }), api.ErrForm},
		{with(func(s *api.Scene) { s.Groups[3].Parent = s.Groups[3].Id }), api.ErrForm},
		{with(func(s *api.Scene) { s.Groups[2], s.Groups[3] = s.Groups[3], s.Groups[2] }), api.ErrForm},
		{with(func(s *api.Scene) { s.Tasks[0], s.Tasks[1] = s.Tasks[1], s.Tasks[0] }), api.ErrForm},
		{chain(1, maxDeep+1), api.ErrDeep},
		{chain(1, maxEach), api.ErrDeep},
	}
}

func TestEncodeOfWhatCantBe(t *testing.T) { // P14.1, R3
	for i, x := range wrongs() {
		tell(t, scene.Check(x.s), x.want, x.s)
		if b, e := encode(t, x.s); e != x.want || len(b) != 0 {
			t.Errorf("%d: %x, %v, not %v", i, b, e, x.want)
		}
	}
	for _, n := range []int{-1, -maxId, 1 << 24, 1<<24 + 7, 1 << 32, 1<<32 + 7, 1 << 48, 1<<48 + 7, math.MinInt, math.MinInt + 7, math.MaxInt} { // the bytes alone would tell others
		for _, by := range []func(s *api.Scene){
			func(s *api.Scene) { s.Groups[3].Id = n }, func(s *api.Scene) { s.Groups[1].Weight = n }, func(s *api.Scene) { s.Groups[1].Band.Period = n },
			func(s *api.Scene) { s.Groups[1].Band.Quota = n }, func(s *api.Scene) { s.Tasks[2].Id = n },
			func(s *api.Scene) { s.Tasks[1].Weight = n }, func(s *api.Scene) { s.Tasks[1].Lag.Rem = n },
		} {
			s := small()
			by(&s)
			_, e := encode(t, s)
			tell(t, e, api.ErrArg, s)
		}
		s := small()
		s.Groups[1].Parent = n
		_, e := encode(t, s)
		tell(t, e, api.ErrNone, s)
	}
}

func TestEncodeOfMany(t *testing.T) { // P14.1, P14.3: as many groups as may be, and as many tasks as there is room for
	for _, x := range []struct {
		groups, tasks int
		want          api.Errno
	}{
		{maxEach, 0, api.OK}, {1, 2426, api.OK}, {1, 2427, api.OK}, {maxEach, 2427, api.OK},
		{1, 2428, api.ErrLong}, {maxEach, 2428, api.ErrLong}, {1, 4000, api.ErrLong}, {1, maxEach, api.ErrLong}, {maxEach, maxEach, api.ErrLong},
		{1, maxEach + 1, api.ErrFull}, {maxEach + 1, maxEach + 1, api.ErrFull}, {maxEach + 1, 2428, api.ErrFull},
	} {
		s := fan(x.groups, x.tasks)
		b, e := encode(t, s)
		tell(t, e, x.want, x)
		if o, f := decode(t, b); e == api.OK && (f != api.OK || !same(o, s)) {
			t.Errorf("%v isn't decoded: %v", x, f)
		}
	}
}

func TestFirstErrorOfEncode(t *testing.T) { // P14.1, R2: what is wrong with the scene comes ahead of too many bytes
	for i, x := range wrongs() {
		if len(x.s.Groups) == 0 {
			continue
		}
		s := own(x.s)
		for k := range 2428 {
			s.Tasks = append(s.Tasks, api.TaskSnap{Id: 500000 + k, Group: s.Groups[0].Id, Weight: 1, Cores: 1})
		}
		if _, e := encode(t, s); e != x.want {
			t.Errorf("%d: %v, not %v", i, e, x.want)
		}
	}
}

func TestSize(t *testing.T) { // P14.1: of whatever scene, also one that can't be
	for groups := range 40 {
		for tasks := range 40 {
			s := api.Scene{Groups: make([]api.GroupSnap, groups), Tasks: make([]api.TaskSnap, tasks)}
			if got := image.Size(s); got != 41+21*groups+35*tasks {
				t.Fatalf("%d groups, %d tasks: %d", groups, tasks, got)
			}
		}
	}
	for _, x := range []struct {
		s    api.Scene
		want int
	}{
		{api.Scene{}, 41}, {small(), 41 + 84 + 105}, {fan(maxEach, maxEach), 41 + 21*4096 + 35*4096}, {fan(maxEach+1, maxEach+1), 41 + 21*4097 + 35*4097},
		{api.Scene{Groups: make([]api.GroupSnap, 1<<20)}, 41 + 21<<20}, {api.Scene{Tasks: make([]api.TaskSnap, 1<<20)}, 41 + 35<<20},
	} {
		if got := image.Size(x.s); got != x.want {
			t.Errorf("%d groups, %d tasks: %d", len(x.s.Groups), len(x.s.Tasks), got)
		}
	}
}

func TestThereAndBack(t *testing.T) { // P14.3
	c := chance(1)
	for range 4000 {
		s := c.scene(1+c.upTo(20), c.upTo(20))
		b, e := encode(t, s)
		tell(t, e, api.OK, s)
		o, e := decode(t, b)
		if e != api.OK || !same(o, s) {
			t.Fatalf("%v is decoded as %v, %v", s, o, e)
		}
		if again, e := encode(t, o); e != api.OK || !bytes.Equal(again, b) {
			t.Fatalf("%v is encoded as %x, %v", o, again, e)
		}
	}
}

func TestUnlikeScenesHaveUnlikeImages(t *testing.T) { // P14.3, T3
	c, seen := chance(2), map[string]api.Scene{}
	for range 4000 {
		s := c.scene(1+c.upTo(2), c.upTo(2))
		if c.upTo(1) == 0 { // one that differs little from another one
			s = small()
			s.Tasks[c.upTo(2)].Ran += -c.upTo(1)
			s.Groups[c.upTo(3)].Weight = 1 + c.upTo(3)
			s.Tasks[c.upTo(2)].Asleep = c.upTo(1) == 0
		}
		b, e := encode(t, s)
		if e != api.OK {
			continue
		}
		if o, is := seen[string(b)]; is && !same(o, s) {
			t.Fatalf("%v and %v have one image", s, o)
		}
		seen[string(b)] = s
	}
}
