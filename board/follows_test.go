package board_test

import (
	"maps"
	"math"
	"slices"
	"testing"

	"diapause/api"
	"diapause/band"
)

// chance is numbers without a pattern, the same ones each time.
type chance uint64

func (c *chance) next() uint64 {
	*c = *c*6364136223846793005 + 1442695040888963407
	return uint64(*c) ^ uint64(*c)>>29
}

// upTo is a number from 0 to most, all of them as frequent.
func (c *chance) upTo(most int) int {
	return int((c.next() >> 8) % uint64(most+1))
}

// some is a number from 0 to most; small ones are as frequent as great ones.
func (c *chance) some(most int) int {
	return int(c.next()>>(c.next()%64)>>1) % (most + 1)
}

// kind is what is done with a board: of so many cores, with groups and tasks of the Ids from 1 on, of which weights, and how far apart. With far ones many are near MaxFar.
type kind struct {
	cores, groups, tasks, weight, apart int
	far                                 bool
}

func kinds() []kind {
	return []kind{
		{1, 2, 4, 1, 0, false}, {2, 4, 9, 3, tick, false}, {3, 7, 20, 9, 2 * tick, false}, {4, 30, 30, 4, tick, false}, {8, 5, 40, maxWeight, 3 * tick, false},
		{64, 9, 30, 2, tick, false}, {2, 4, 9, 2, tick, true}, {3, 9, 25, 3, 2 * tick, true}, {1, 25, 6, 2, tick, true}, {5, 60, 6, 1, 0, false},
	}
}

// walk is a board with which anything is done. Groups and tasks share some Ids, so that these are both now and then.
type walk struct {
	pair
	kind
	c *chance
}

func newWalk(t *testing.T, of kind, c *chance) *walk {
	t.Helper()
	w := &walk{newPair(t, of.cores), of, c}
	if c.upTo(2) == 0 {
		must(t, w.pass(maxTicks-c.upTo(2000)))
	}
	return w
}

// wrong is a number that is none of those that can be, now and then.
func (w *walk) wrong(n int) int {
	if w.c.upTo(80) > 0 {
		return n
	}
	return []int{0, -1, -n, n + 1<<32, maxId + 1, maxFar + 1, math.MinInt, math.MaxInt}[w.c.upTo(7)]
}

// anyId is that of a group or a task, there or not.
func (w *walk) anyId() int { return w.wrong(1 + w.c.upTo(w.groups+w.tasks-1)) }

// oneOf is one of those that are there, mostly.
func (w *walk) oneOf(ids []int) int {
	if len(ids) == 0 || w.c.upTo(11) == 0 {
		return w.anyId()
	}
	slices.Sort(ids)
	return w.wrong(ids[w.c.upTo(len(ids)-1)])
}

func (w *walk) aGroup() int { return w.oneOf(slices.Collect(maps.Keys(w.m.groups))) }

// deepest is the group that is most steps from 0, of these the least one; 0, if there is none.
func (w *walk) deepest() int {
	best := 0
	for _, id := range slices.Sorted(maps.Keys(w.m.groups)) {
		if len(w.m.way(id)) > len(w.m.way(best)) {
			best = id
		}
	}
	return best
}

// aHome is a group, or 0.
func (w *walk) aHome() int {
	switch chance := w.c.upTo(5); {
	case chance == 0:
		return 0
	case chance == 1 || chance < 5 && w.groups > w.tasks:
		return w.deepest()
	}
	return w.aGroup()
}

func (w *walk) aTask() int { return w.oneOf(slices.Collect(maps.Keys(w.m.tasks))) }

// aTaskIn is a task in a state, if there is one.
func (w *walk) aTaskIn(state int) int {
	var ids []int
	for id, x := range w.m.tasks {
		if x.State == state {
			ids = append(ids, id)
		}
	}
	return w.oneOf(ids)
}

func (w *walk) aWeight() int { return w.wrong(1 + w.c.some(w.weight-1)) }

func (w *walk) aCore() int { return w.wrong(w.c.upTo(w.cores - 1)) }

// aSet is cores, of which one at least is of the board, mostly.
func (w *walk) aSet() uint64 {
	switch w.c.upTo(9) {
	case 0:
		return w.c.next() & w.c.next() & w.c.next() & w.c.next()
	case 1, 2, 3:
		return every
	case 4:
		return 1<<w.c.upTo(w.cores-1) | 1<<63
	}
	return 1<<w.c.upTo(w.cores-1) | 1<<w.c.upTo(w.cores-1)
}

func (w *walk) aBand() api.Band {
	if w.c.upTo(1) == 0 {
		return api.Band{}
	}
	return api.Band{Period: w.wrong(1 + w.c.some(40)), Quota: w.wrong(1 + w.c.some(12)), Used: w.wrong(w.c.some(5))}
}

func (w *walk) aGroupInfo() api.GroupInfo {
	return api.GroupInfo{Id: w.anyId(), Parent: w.aHome(), Weight: w.aWeight(), Band: w.aBand(), Mark: w.c.upTo(30) == 0}
}

func (w *walk) aTaskInfo() api.TaskInfo {
	weight := 1 + w.c.some(w.weight-1)
	x := api.TaskInfo{Id: w.anyId(), Group: w.aHome(), Weight: w.wrong(weight), Cores: w.aSet(), State: w.wrong(1 + w.c.upTo(2)), Core: w.aCore(), Ran: w.wrong(w.c.some(20))}
	x.Lag = api.Pace{V: w.wrong(w.c.some(w.apart)), Rem: w.wrong(w.c.upTo(weight - 1))}
	if w.far && w.c.upTo(3) == 0 {
		x.Lag.V = maxFar - w.c.some(w.apart) - tick*w.c.upTo(3)
	}
	return x
}

// change does anything with groups, and tells what, and an error's number.
func (w *walk) change() (string, api.Errno) {
	w.t.Helper()
	switch w.c.upTo(9) {
	case 0, 1:
		return "Group", w.group(w.aGroupInfo())
	case 2:
		return "Drop", w.drop(w.aGroup())
	case 3, 4:
		return "Move", w.move(w.aGroup(), w.aHome())
	case 5:
		return "Weigh", w.weigh(w.aGroup(), w.aWeight())
	case 6:
		return "Mark", w.mark(w.aGroup(), w.c.upTo(9) == 0)
	case 7:
		return "", w.told("", 0, 0, w.toggle(w.aCore(), w.c.upTo(2) > 0)...)
	case 8:
		return "Pass", w.pass(w.wrong(w.c.some(30)))
	}
	id, _, _ := w.balance()
	return "", w.told("", 0, 0, id)
}

// step does anything, and tells what, and an error's number.
func (w *walk) step(grow bool) (string, api.Errno) {
	w.t.Helper()
	switch w.c.upTo(13) {
	case 0, 1, 2:
		return w.change()
	case 3:
		if !grow {
			return "Exit", w.exit(w.aTask())
		}
		return "Spawn", w.spawn(w.anyId(), w.aHome(), w.aWeight(), w.aSet())
	case 4:
		if !grow && w.c.upTo(2) > 0 {
			return "Exit", w.exit(w.aTask())
		}
		return "Adopt", w.adopt(w.aTaskInfo())
	case 5:
		return "Sleep", w.sleep(w.aTaskIn(api.Ready))
	case 6:
		return "Wake", w.wake(w.aTaskIn(api.Asleep))
	case 7:
		return "Weigh", w.weigh(w.aTask(), w.aWeight())
	case 8:
		return "Bind", w.bind(w.aTask(), w.aSet())
	case 9:
		return "Place", w.place(w.aTaskIn(api.Parked))
	}
	_, e := w.tick(w.aCore())
	return "Tick", e
}

// holds fails if a task is on a core on which it can't be, or one runs where it isn't.
func (w *walk) holds() {
	w.t.Helper()
	for _, id := range w.b.Tasks() {
		x, _ := w.b.Task(id)
		switch x.State {
		case api.Ready:
			if w.b.Online()&x.Cores>>x.Core&1 == 0 {
				w.t.Fatalf("%v is ready, and %b are online", x, w.b.Online())
			}
		case api.Asleep, api.Parked:
			if x.Core != -1 {
				w.t.Fatalf("%v is on a core", x)
			}
		default:
			w.t.Fatalf("%v has no state", x)
		}
	}
	for core := range w.b.Cores() {
		id := w.b.Cur(core)
		if x, is := w.b.Task(id); id != 0 && (!is || x.State != api.Ready || x.Core != core) {
			w.t.Fatalf("%v, %v, runs on core %d", x, is, core)
		}
	}
}

func TestWhateverIsDone(t *testing.T) { // P17.1, P17.2, P17.3, P17.4, P17.5, P17.6: each task is ready on one core, on which it may be, and which is online, or on none
	seen := map[string]map[api.Errno]int{}
	for i, of := range kinds() {
		for try := range 3 {
			c := chance(100*i + try)
			w := newWalk(t, of, &c)
			for round := range 5000 {
				what, e := w.step(round/200%3 < 2)
				if seen[what] == nil {
					seen[what] = map[api.Errno]int{}
				}
				seen[what][e]++
				if round%10 == 0 {
					w.same(of.groups + of.tasks + 1)
				}
				w.holds()
			}
		}
	}
	want := map[string][]api.Errno{
		"Group": {api.ErrArg, api.ErrTwice, api.ErrNone, api.ErrDeep, api.ErrCold}, "Drop": {api.ErrNone, api.ErrBusy, api.ErrCold}, "Move": {api.ErrNone, api.ErrLoop, api.ErrDeep, api.ErrCold},
		"Spawn": {api.ErrArg, api.ErrTwice, api.ErrNone, api.ErrCold}, "Adopt": {api.ErrArg, api.ErrTwice, api.ErrNone, api.ErrCold},
		"Exit": {api.ErrNone, api.ErrCold}, "Sleep": {api.ErrNone, api.ErrCold, api.ErrState}, "Wake": {api.ErrNone, api.ErrCold, api.ErrState}, "Bind": {api.ErrNone, api.ErrArg, api.ErrCold},
		"Weigh": {api.ErrNone, api.ErrArg, api.ErrCold}, "Mark": {api.ErrNone, api.ErrState}, "Tick": {api.ErrArg, api.ErrOff}, "Pass": {api.ErrArg, api.ErrRange}, "Place": {api.ErrNone, api.ErrState}, "": nil,
	}
	for what, l := range want {
		for _, e := range append(l, api.OK) {
			if seen[what][e] < 10 {
				t.Errorf("%s told %v %d times", what, e, seen[what][e])
			}
			delete(seen[what], e)
		}
		if len(seen[what]) > 0 {
			t.Errorf("%s told %v, too", what, seen[what])
		}
	}
}

func TestWhoIsPickedMayRun(t *testing.T) { // P17.6: whoever is picked is not cold, and in no group that had its quota
	for i, of := range kinds() {
		c := chance(1000 + i)
		w := newWalk(t, of, &c)
		picked, kept := 0, 0
		for round := range 4000 {
			w.step(round/200%3 < 2)
			core := c.upTo(of.cores - 1)
			id, e := w.b.Tick(core)
			w.m.tick(core)
			switch {
			case id == 0:
				for _, x := range w.m.lanes[core].Tasks() {
					kept++
					if e == api.OK && !w.hindered(x) {
						t.Fatalf("nobody is picked of core %d, on which %d is", core, x)
					}
				}
			case w.hindered(id):
				t.Fatalf("%d is picked", id)
			default:
				picked++
			}
		}
		if picked < 100 || kept < 10 {
			t.Errorf("kind %d: %d were picked, %d weren't", i, picked, kept)
		}
	}
}

// hindered tells whether a task is cold, or in a group that had its quota.
func (w *walk) hindered(id int) bool {
	x, _ := w.b.Task(id)
	for group := x.Group; group != 0; {
		g, _ := w.b.One(group)
		if band.Shut(g.Band) {
			return true
		}
		group = g.Parent
	}
	return w.b.Cold(id)
}

func TestErrorsChangeNothing(t *testing.T) { // R3: another board, with which all is done that told no error, goes on alike
	for i, of := range kinds() {
		c := chance(2000 + i)
		w := newWalk(t, of, &c)
		other := newPair(t, of.cores)
		for round := range 2000 {
			g, x, id, to := w.aGroupInfo(), w.aTaskInfo(), w.anyId(), w.aHome()
			weight, cores, is := w.aWeight(), w.aSet(), c.upTo(1) == 0
			for _, do := range []func(p pair) api.Errno{
				func(p pair) api.Errno { return p.group(g) },
				func(p pair) api.Errno { return p.adopt(x) },
				func(p pair) api.Errno { return p.spawn(id, to, weight, cores) },
				func(p pair) api.Errno { return p.bind(id, cores) },
				func(p pair) api.Errno { return p.weigh(id, weight) },
				func(p pair) api.Errno { return p.move(id, to) },
				func(p pair) api.Errno { return p.mark(id, is) },
				func(p pair) api.Errno { return p.wake(id) },
				func(p pair) api.Errno { return p.sleep(id) },
				func(p pair) api.Errno { return p.drop(id) },
				func(p pair) api.Errno { return p.exit(id) },
				func(p pair) api.Errno { return p.place(id) },
				func(p pair) api.Errno { return p.pass(weight) },
				func(p pair) api.Errno { _, e := p.tick(id); return e },
			} {
				if c.upTo(3) == 0 && do(w.pair) == api.OK {
					tell(t, do(other), api.OK)
				}
			}
			if round%20 == 0 {
				list(t, other.b.Tasks(), w.b.Tasks()...)
				if !slices.Equal(other.all(), w.all()) {
					t.Fatalf("%v, and %v", other.all(), w.all())
				}
				list(t, other.b.Under(0), w.b.Under(0)...)
			}
		}
	}
}

func TestSameEachTime(t *testing.T) { // R6: no order of a map is to be seen
	for i, of := range kinds() {
		var first []api.TaskInfo
		for range 4 {
			c := chance(3000 + i)
			w := newWalk(t, of, &c)
			var seen []api.TaskInfo
			for round := range 1500 {
				w.step(round/200%3 < 2)
				if round%50 == 0 {
					seen = append(seen, w.all()...)
				}
			}
			if first == nil {
				first = seen
			}
			if !slices.Equal(first, seen) {
				t.Fatalf("kind %d went another way", i)
			}
		}
	}
}

func TestNobodyIsFurtherAheadThanATick(t *testing.T) { // P17.4, T4: of siblings that stay nobody is further ahead than a tick of its own takes it, and one
	p := newPair(t, 2)
	must(t, p.group(heavy(1, 0, 2)), p.group(heavy(2, 1, 5)), p.group(heavy(3, 0, 1)))
	for id := 10; id < 30; id++ {
		must(t, p.spawn(id, id%4, 1+id%7, 3))
	}
	for range 1000 {
		for core := range 2 {
			p.ticks(core, 1)
		}
		for id := 10; id < 30; id++ {
			if x, _ := p.b.Task(id); x.Lag.V > tick/x.Weight+1 {
				t.Fatalf("%v is too far", x)
			}
		}
	}
}

func TestQuotaOfEachPeriod(t *testing.T) { // P17.4, T4: in each period no group has more than its quota, and a tick for each core
	p := newPair(t, 3)
	quotas := []int{1: 7, 2: 3, 3: 5}
	for id, quota := range quotas {
		if id > 0 {
			must(t, p.group(limited(id, id/2, 10, quota)))
		}
	}
	for id := 10; id < 20; id++ {
		must(t, p.spawn(id, id%4, 1+id%3, 7))
	}
	c := chance(5)
	for range 3000 {
		p.ticks(c.upTo(2), 1)
		if c.upTo(4) == 0 {
			must(t, p.pass(c.upTo(3)))
		}
		if c.upTo(20) == 0 {
			must(t, p.weigh(10+c.upTo(9), 1+c.upTo(4)))
		}
		for id, quota := range quotas {
			if g, _ := p.b.One(id); id > 0 && g.Band.Used > quota+3 {
				t.Fatalf("%v used too much", g)
			}
		}
	}
}

func TestExamples(t *testing.T) { // the chapter's example, and the whole's fifth
	p := newPair(t, 2)
	must(t, p.spawn(1, 0, 1, 3), p.spawn(2, 0, 1, 3))
	p.is(1, api.Ready, 0)
	p.is(2, api.Ready, 1)
	list(t, p.ticks(0, 1), 1)
	must(t, p.spawn(7, 0, 1, 8))
	p.is(7, api.Parked, -1)
}
