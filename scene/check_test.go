package scene_test

import (
	"math/bits"
	"slices"
	"testing"

	"diapause/api"
	"diapause/scene"
)

// tell fails if an error is not the one that it should be.
func tell(t *testing.T, got, want api.Errno, of any) {
	t.Helper()
	if got != want {
		t.Errorf("%v, not %v: of %v", got, want, of)
	}
}

func TestExample(t *testing.T) { // P13.1, P13.2
	s := api.Scene{Groups: []api.GroupSnap{{Id: 7, Weight: 1}, {Id: 9, Parent: 7, Weight: 1}, {Id: 8, Parent: 7, Weight: 1}}}
	tell(t, check(t, s), api.ErrForm, s)
	o := order(t, s)
	tell(t, check(t, o), api.OK, o)
	if ids := scene.Ids(o); !slices.Equal(ids, []int{7, 8, 9}) {
		t.Errorf("%v", ids)
	}
}

func TestScenesThatCanBe(t *testing.T) { // P13.1
	tell(t, check(t, small()), api.OK, "the small one")
	tell(t, check(t, chain(1, 1)), api.OK, "one group")
	tell(t, check(t, chain(maxId, 1)), api.OK, "one group of the greatest Id")
	tell(t, check(t, api.Scene{Groups: chain(1, 1).Groups, Tasks: []api.TaskSnap{}}), api.OK, "an empty list of tasks")
}

func TestCheckOfNoGroups(t *testing.T) { // P13.1, R4: ahead of all else
	many := fan(1, maxEach+1).Tasks
	for _, tasks := range [][]api.TaskSnap{nil, {}, small().Tasks, {{}}, {{}, {}}, many} {
		for _, groups := range [][]api.GroupSnap{nil, {}} {
			tell(t, check(t, api.Scene{Groups: groups, Tasks: tasks}), api.ErrShort, len(tasks))
		}
	}
}

func TestCheckOfMany(t *testing.T) { // P13.1: groups and tasks are counted each by themselves
	for _, x := range []struct {
		groups, tasks int
		want          api.Errno
	}{
		{maxEach - 1, 0, api.OK}, {maxEach, 0, api.OK}, {1, maxEach - 1, api.OK}, {1, maxEach, api.OK}, {maxEach, maxEach, api.OK},
		{maxEach + 1, 0, api.ErrFull}, {maxEach + 2, 0, api.ErrFull}, {1, maxEach + 1, api.ErrFull}, {1, 2*maxEach + 1, api.ErrFull},
		{maxEach + 1, maxEach, api.ErrFull}, {maxEach, maxEach + 1, api.ErrFull}, {maxEach + 1, maxEach + 1, api.ErrFull},
	} {
		tell(t, check(t, fan(x.groups, x.tasks)), x.want, x)
	}
}

// edges are numbers at and about the ends of what may be, and wild ones.
func edges(least, most int) []int {
	return append([]int{least - 1, least, least + 1, most - 1, most, most + 1, 1 << 32, 1<<32 + 1, 0}, wild()...)
}

func TestCheckOfEachNumber(t *testing.T) { // P13.1: of each group, and each task
	for _, x := range []struct {
		name        string
		least, most int
		group       func(g *api.GroupSnap, n int)
		task        func(x *api.TaskSnap, n int)
	}{
		{"Id", 1, maxId, func(g *api.GroupSnap, n int) { g.Id = n }, func(x *api.TaskSnap, n int) { x.Id = n }},
		{"Weight", 1, maxWeight, func(g *api.GroupSnap, n int) { g.Weight = n }, func(x *api.TaskSnap, n int) { x.Weight, x.Lag.Rem = n, 0 }},
		{"Period", 0, maxPeriod, func(g *api.GroupSnap, n int) { g.Band = api.Band{Period: n} }, nil},
		{"Period of a limit", 1, maxPeriod, func(g *api.GroupSnap, n int) { g.Band = api.Band{Period: n, Quota: 2} }, nil},
		{"Quota", 0, maxPeriod, func(g *api.GroupSnap, n int) { g.Band = api.Band{Period: 5, Quota: n} }, nil},
		{"Quota without a period", 0, 0, func(g *api.GroupSnap, n int) { g.Band = api.Band{Quota: n} }, nil},
		{"Used", 0, maxTicks, func(g *api.GroupSnap, n int) { g.Band = api.Band{Period: 5, Quota: 2, Used: n} }, nil},
		{"Used without a limit", 0, 0, func(g *api.GroupSnap, n int) { g.Band = api.Band{Period: 5, Used: n} }, nil},
		{"Ran", 0, maxTicks, nil, func(x *api.TaskSnap, n int) { x.Ran = n }},
		{"V", 0, maxFar, nil, func(x *api.TaskSnap, n int) { x.Lag.V = n }},
		{"Rem by 9", 0, 8, nil, func(x *api.TaskSnap, n int) { x.Weight, x.Lag.Rem = 9, n }},
		{"Rem by the least weight", 0, 0, nil, func(x *api.TaskSnap, n int) { x.Weight, x.Lag.Rem = 1, n }},
		{"Rem by the greatest weight", 0, maxWeight - 1, nil, func(x *api.TaskSnap, n int) { x.Weight, x.Lag.Rem = maxWeight, n }},
	} {
		for _, n := range edges(x.least, x.most) {
			var l []api.Scene
			for i := range small().Groups {
				if s := small(); x.group != nil {
					x.group(&s.Groups[i], n)
					l = append(l, s)
				}
			}
			for i := range small().Tasks {
				if s := small(); x.task != nil {
					x.task(&s.Tasks[i], n)
					l = append(l, s)
				}
			}
			for _, s := range l {
				// Another Id may be an error of another kind, no other number may.
				e, wrong := check(t, s), !inside(n, x.least, x.most)
				if wrong != (e == api.ErrArg) || e != api.OK && !wrong && x.name != "Id" {
					t.Errorf("%s %d: %v", x.name, n, e)
				}
			}
		}
	}
}

func TestCheckOfCores(t *testing.T) { // P13.1
	for i := range small().Tasks {
		for _, cores := range []uint64{0, 1, 2, 3, 1 << 31, 1 << 32, 1 << 62, 1 << 63, 1<<64 - 1} {
			s, want := small(), api.OK
			if s.Tasks[i].Cores = cores; cores == 0 {
				want = api.ErrArg
			}
			tell(t, check(t, s), want, cores)
		}
	}
}

// idAt is the Id of a scene's group, or of a task behind the groups.
func idAt(s *api.Scene, i int) *int {
	if i < len(s.Groups) {
		return &s.Groups[i].Id
	}
	return &s.Tasks[i-len(s.Groups)].Id
}

func TestCheckOfTheSameId(t *testing.T) { // P13.1: any two, wherever they stand
	many := len(scene.Ids(small()))
	for i := range many {
		for k := range many {
			s, want := small(), api.ErrTwice
			if *idAt(&s, i) = *idAt(&s, k); i == k {
				want = api.OK
			}
			tell(t, check(t, s), want, s)
		}
	}
	s := fan(maxEach, maxEach)
	s.Tasks[maxEach-1].Id = maxEach
	tell(t, check(t, s), api.ErrTwice, "the last ones of many")
}

func TestCheckOfParents(t *testing.T) { // P13.1
	strange := append(wild(), 1, 51, 10, 40, 1<<32, 1<<32+50, -50, maxId, maxId+1)
	for i, want := range []api.Errno{api.ErrNone, api.ErrForm, api.ErrForm, api.ErrForm} {
		for _, parent := range strange {
			s := small()
			s.Groups[i].Parent = parent
			tell(t, check(t, s), api.ErrNone, s)
		}
		s := small()
		s.Groups[i].Parent = s.Groups[i].Id
		tell(t, check(t, s), want, s) // of itself: the first one must have none
	}
	for _, parent := range []int{20, 60, 30} {
		s := small()
		s.Groups[0].Parent = parent
		tell(t, check(t, s), api.ErrNone, s)
	}
	for i := range small().Tasks {
		for _, group := range append(strange, 0) {
			s := small()
			s.Tasks[i].Group = group
			tell(t, check(t, s), api.ErrNone, s)
		}
		for _, group := range []int{20, 30, 50, 60} {
			s := small()
			s.Tasks[i].Group = group
			tell(t, check(t, s), api.OK, s)
		}
	}
}

func TestCheckOfASecondTop(t *testing.T) { // P13.1
	for i := 1; i < 4; i++ {
		s := small()
		s.Groups[i].Parent = 0
		tell(t, check(t, s), api.ErrForm, s)
		s.Groups[0].Parent = s.Groups[i].Id
		tell(t, check(t, s), api.ErrNone, s)
	}
	s := chain(1, 2)
	s.Groups[1].Parent = 0
	tell(t, check(t, s), api.ErrForm, s)
}

func TestCheckOfRounds(t *testing.T) { // P13.1: groups above themselves, by each number of steps, wherever they stand
	for many := 1; many <= 40; many++ {
		for at := 1; at <= 3; at++ {
			round := chain(100, many)
			round.Groups[0].Parent = 99 + many
			s := small()
			s.Groups = slices.Insert(s.Groups, at, round.Groups...)
			tell(t, check(t, s), api.ErrForm, s)
			s.Groups[at+many/2].Id = 7 // the round is open: a parent isn't there
			tell(t, check(t, s), api.ErrNone, s)
			tall := grown([]int{50, 7, 8}, []int{0, 0})
			tall.Groups = append(tall.Groups, round.Groups...)
			tall.Groups = append(tall.Groups, api.GroupSnap{Id: 900, Parent: 100, Weight: 1}) // below a round
			tell(t, check(t, tall), api.ErrForm, tall)
		}
	}
}

func TestCheckOfEachOrder(t *testing.T) { // P13.1, P13.2: of all orders one is right
	ids := []int{4, 2, 9, 1, 7}
	for a := range 2 {
		for b := range 3 {
			for c := range 4 {
				s, right := grown(ids, []int{0, a, b, c}), 0
				for _, groups := range orders(s.Groups, 0) {
					s.Groups = groups
					e := check(t, s)
					if groups[0].Id != 4 {
						tell(t, e, api.ErrNone, s)
						continue
					}
					if e == api.OK {
						right++
					} else {
						tell(t, e, api.ErrForm, s)
					}
					tell(t, check(t, order(t, s)), api.OK, s)
				}
				if right != 1 {
					t.Errorf("%d orders of %v are right", right, s)
				}
			}
		}
	}
}

func TestCheckOfEachOrderOfTasks(t *testing.T) { // P13.1, P13.2
	s := small()
	s.Tasks = append(s.Tasks, api.TaskSnap{Id: 80, Group: 20, Weight: 1, Cores: 1}, api.TaskSnap{Id: maxId, Group: 50, Weight: 1, Cores: 1})
	last := own(s)
	for i, tasks := range orders(s.Tasks, 0) {
		s.Tasks = tasks
		want := api.ErrForm
		if i == 0 {
			want = api.OK
		}
		tell(t, check(t, s), want, s)
		if o := order(t, s); !same(o, last) {
			t.Errorf("Order(%v) = %v", s, o)
		}
	}
}

func TestCheckOfDeepOnes(t *testing.T) { // P13.1: fifteen steps can be, sixteen can't, on each way down
	for many := 1; many <= 40; many++ {
		want := api.OK
		if many > maxDeep {
			want = api.ErrDeep
		}
		s := chain(100, many)
		tell(t, check(t, s), want, many)
		// A way down that is not the first one, and one that isn't the last one.
		for first := range many {
			for _, side := range [][]int{{1, 2}, {900, 901}} {
				l := []api.GroupSnap{{Id: side[0], Parent: 100 + first, Weight: 1}, {Id: side[1], Parent: side[0], Weight: 1}}
				s := order(t, api.Scene{Groups: append(chain(100, many).Groups, l...)})
				want := api.OK
				if max(many, first+3) > maxDeep {
					want = api.ErrDeep
				}
				tell(t, check(t, s), want, s)
			}
		}
	}
	tell(t, check(t, chain(1, maxEach)), api.ErrDeep, "as many as may be")
	turned := chain(1, 17)
	slices.Reverse(turned.Groups[1:])
	tell(t, check(t, turned), api.ErrForm, "deep, and in no order")
}

// fault is a thing that is wrong, and what is told of it if it is the first one.
type fault struct {
	e  api.Errno
	by func(s *api.Scene)
}

// faults are such ones, in the order in which they are told; each can be beside each other one.
func faults() []fault {
	return []fault{
		{api.ErrFull, func(s *api.Scene) { s.Tasks = append(s.Tasks, fan(1, maxEach+1).Tasks...) }},
		{api.ErrFull, func(s *api.Scene) { s.Groups = append(s.Groups, fan(maxEach+1, 0).Groups...) }},
		{api.ErrArg, func(s *api.Scene) { s.Groups[3].Weight = 0 }},
		{api.ErrArg, func(s *api.Scene) { s.Tasks[2].Ran = -1 }},
		{api.ErrTwice, func(s *api.Scene) { s.Groups = append(s.Groups, api.GroupSnap{Id: 10, Parent: 50, Weight: 1}) }},
		{api.ErrTwice, func(s *api.Scene) { s.Tasks = append(s.Tasks, s.Tasks[2]) }},
		{api.ErrNone, func(s *api.Scene) { s.Groups[0].Parent = 20 }},
		{api.ErrNone, func(s *api.Scene) { s.Groups[2].Parent = 10 }},
		{api.ErrNone, func(s *api.Scene) { s.Tasks[0].Group = 0 }},
		{api.ErrForm, func(s *api.Scene) { s.Groups = append(s.Groups, api.GroupSnap{Id: 77, Weight: 1}) }},
		{api.ErrForm, func(s *api.Scene) { s.Groups = append(s.Groups, api.GroupSnap{Id: 78, Parent: 78, Weight: 1}) }},
		{api.ErrForm, func(s *api.Scene) { s.Tasks[0], s.Tasks[1] = s.Tasks[1], s.Tasks[0] }},
		{api.ErrForm, func(s *api.Scene) { s.Groups[2], s.Groups[3] = s.Groups[3], s.Groups[2] }},
		{api.ErrDeep, func(s *api.Scene) {
			deep := chain(1001, 16)
			deep.Groups[0].Parent = 50
			s.Groups = append(s.Groups, deep.Groups...)
		}},
	}
}

// withFaults is the small scene with those whose bits are set, the last ones put in first: those behind may lay down more.
func withFaults(set int) (api.Scene, api.Errno) {
	s, want := small(), api.OK
	for i, x := range slices.Backward(faults()) {
		if set>>i&1 == 1 {
			x.by(&s)
			want = x.e
		}
	}
	return s, want
}

func TestTheFirstErrorIsTold(t *testing.T) { // P13.1, P13.2, R2, R3: all sets of faults
	for set := range 1 << len(faults()) {
		// Those with very many groups or tasks take long: each by itself will do, each with another one, and all.
		if many := bits.OnesCount(uint(set)); set&3 != 0 && many > 2 && many < len(faults()) {
			continue
		}
		s, want := withFaults(set)
		tell(t, check(t, s), want, set)
		_, e := rename(t, s, 0)
		tell(t, e, want, set)
		s.Groups = nil
		tell(t, check(t, s), api.ErrShort, set)
	}
}

// spoil makes something of a scene different.
func (c *chance) spoil(s *api.Scene) {
	n := []int{0, 1, 2, maxId, maxId + 1, -1, c.upTo(100), c.upTo(maxId)}[c.upTo(7)]
	g := &s.Groups[c.upTo(len(s.Groups)-1)]
	o := s.Groups[c.upTo(len(s.Groups)-1)]
	switch c.upTo(12) {
	case 0:
		g.Id = n
	case 1:
		g.Id = o.Id
	case 2:
		g.Parent = n
	case 3, 4:
		g.Parent = o.Id
	case 5:
		g.Weight = n
	case 6:
		g.Band = api.Band{Period: n, Quota: c.upTo(2), Used: c.upTo(2)}
	case 7:
		*g = o
	case 8:
		s.Groups = append(s.Groups, *g)
	case 9:
		s.Groups = slices.Delete(s.Groups, len(s.Groups)-1, len(s.Groups))
	default:
		c.spoilTask(s, n, o.Id)
	}
}

// spoilTask is of a task, if there is one.
func (c *chance) spoilTask(s *api.Scene, n, group int) {
	if len(s.Tasks) == 0 {
		return
	}
	x := &s.Tasks[c.upTo(len(s.Tasks)-1)]
	switch c.upTo(6) {
	case 0:
		x.Id = n
	case 1:
		x.Group = n
	case 2:
		x.Group = group
	case 3:
		x.Weight = n
	case 4:
		x.Lag.Rem = n
	case 5:
		x.Cores = uint64(c.upTo(1))
	case 6:
		s.Tasks = append(s.Tasks, *x)
	}
}

func TestWhateverIsWrong(t *testing.T) { // P13.1
	c, seen := chance(7), map[api.Errno]int{}
	for round := range 60000 {
		s := c.scene(1+c.upTo(9+round%3*8), c.upTo(6), c.upTo(99))
		if c.upTo(9) > 0 {
			s = modelOrder(s)
		}
		for range c.upTo(2) {
			if len(s.Groups) > 0 {
				c.spoil(&s)
			}
		}
		seen[check(t, s)]++
	}
	for _, e := range []api.Errno{api.OK, api.ErrShort, api.ErrArg, api.ErrTwice, api.ErrNone, api.ErrForm, api.ErrDeep} {
		if seen[e] < 200 {
			t.Errorf("%v was told %d times", e, seen[e])
		}
	}
}
