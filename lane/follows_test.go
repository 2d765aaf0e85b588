package lane_test

import (
	"maps"
	"math"
	"slices"
	"testing"

	"diapause/api"
	"diapause/lane"
)

// chance is numbers without a pattern, the same ones each time.
type chance uint64

func (c *chance) next() uint64 {
	*c = *c*6364136223846793005 + 1442695040888963407
	return uint64(*c) ^ uint64(*c)>>29
}

// upTo is a number from 0 to most, all of them as frequent.
func (c *chance) upTo(most int) int {
	return int((c.next() >> 8) % uint64(most+1))
}

// some is a number from 0 to most; small ones are as frequent as great ones.
func (c *chance) some(most int) int {
	return int(c.next()>>(c.next()%64)>>1) % (most + 1)
}

// kind is what is done with a lane: with the groups from 1 on, and the tasks behind the first few of these; of which weights, and how far. With far ones many are near MaxFar.
type kind struct {
	groups, tasks, first, weight, lag int
	far                               bool
}

func kinds() []kind {
	return []kind{
		{1, 3, 2, 1, 0, false}, {3, 8, 4, 3, 5, false}, {5, 12, 6, 4, 3 * tick, false}, {8, 20, 3, 9, tick, false}, {12, 30, 10, maxWeight, 2 * tick, false},
		{12, 12, 1, 3, tick, false}, {4, 10, 5, 2, tick, true}, {9, 20, 8, 3, 4 * tick, true}, {20, 40, 15, 100, tick / 2, false},
	}
}

// walk is a lane with which anything is done: each group has a parent, and a weight, which change now and then.
type walk struct {
	pair
	kind
	c       *chance
	parents []int
	weights []int
}

func newWalk(t *testing.T, of kind, c *chance) *walk {
	w := &walk{newPair(t), of, c, make([]int, of.groups+1), make([]int, of.groups+1)}
	for id := 1; id <= of.groups; id++ {
		w.turn(id)
	}
	return w
}

// turn gives a group another parent, of a lower Id, and another weight.
func (w *walk) turn(id int) {
	w.parents[id] = w.c.upTo(id - 1)
	w.weights[id] = 1 + w.c.some(w.weight-1)
}

// wrong is a number that is none of those that can be, now and then.
func (w *walk) wrong(n int) int {
	if w.c.upTo(60) > 0 {
		return n
	}
	return []int{0, -1, -n, n + 1<<32, maxId + 1, maxFar + 1, math.MinInt, math.MaxInt}[w.c.upTo(7)]
}

// way is a group's path, mostly; now and then one that isn't.
func (w *walk) way(group int) []api.Step {
	var path []api.Step
	for ; group > 0; group = w.parents[group] {
		path = append(path, api.Step{Id: w.wrong(group), Weight: w.wrong(w.weights[group])})
	}
	if len(path) == 0 || w.c.upTo(12) > 0 {
		return path
	}
	at := w.c.upTo(len(path) - 1)
	switch w.c.upTo(4) {
	case 0:
		return slices.Delete(path, at, at+1)
	case 1:
		return slices.Insert(path, at, path[w.c.upTo(len(path)-1)])
	case 2:
		return slices.Insert(path, at, api.Step{Id: w.any(), Weight: 1})
	case 3:
		path[at].Id = 1 + w.c.upTo(w.groups-1)
	case 4:
		path[at].Weight = 1 + w.c.some(w.weight)
	}
	return path
}

// task is one that is there, mostly.
func (w *walk) task() int {
	if all := w.m.tasks(); len(all) > 0 && w.c.upTo(7) > 0 {
		return all[w.c.upTo(len(all)-1)]
	}
	return w.wrong(w.first + w.c.upTo(w.tasks-1))
}

// any is a task, or a group.
func (w *walk) any() int {
	if w.c.upTo(1) == 0 {
		return w.wrong(1 + w.c.upTo(w.groups-1))
	}
	return w.task()
}

// member is one that isn't there, mostly.
func (w *walk) member() api.Member {
	weight := 1 + w.c.some(w.weight-1)
	m := ahead(w.wrong(w.first+w.c.upTo(w.tasks-1)), w.wrong(weight), w.wrong(w.c.some(w.lag)), w.wrong(w.c.upTo(weight-1)))
	if w.far && w.c.upTo(3) == 0 {
		m.Lag.V = maxFar - w.c.some(w.lag) - tick*w.c.upTo(3)
	}
	return m
}

// shut are some groups, now and then with others.
func (w *walk) shut() []int {
	var l []int
	for range w.c.some(w.groups) {
		l = append(l, w.any())
	}
	return l
}

// step does anything, and tells what, and an error's number.
func (w *walk) step(grow bool) (string, api.Errno) {
	w.t.Helper()
	what := w.c.upTo(19)
	switch {
	case what < 3 || grow && what < 6:
		return "Enter", w.enter(w.member(), w.way(w.c.upTo(w.groups))...)
	case what < 4 || !grow && what < 7:
		_, e := w.leave(w.task())
		return "Leave", e
	case what < 9:
		return "Weigh", w.weigh(w.any(), w.wrong(1+w.c.some(w.weight-1)))
	case what < 10:
		return "Forget", w.forget(w.wrong(w.c.upTo(w.groups)))
	case what < 11:
		w.turn(1 + w.c.upTo(w.groups-1))
	case what < 14:
		return "Run", w.run(w.task())
	}
	return "Run", w.run(w.pick(w.shut()...))
}

// heights fails if one is below its queue's base, or has a place that can't be.
func (w *walk) heights() {
	w.t.Helper()
	for id := range w.groups + 1 {
		for _, m := range w.l.Queue(id) {
			if m.Lag.V < 0 {
				w.t.Fatalf("%v is below the base of %d", m, id)
			}
			way := w.l.Way(m.Id)
			if id == 0 && len(way) > 0 || id > 0 && way[0] != id || slices.Contains(way, m.Id) {
				w.t.Fatalf("%d is in the queue of %d, and has the way %v", m.Id, id, way)
			}
		}
	}
}

func TestWhateverIsDone(t *testing.T) { // P16.1, P16.2, P16.3, P16.4, P16.5: in each queue the base is not above anyone
	seen := map[string]map[api.Errno]int{"Enter": {}, "Leave": {}, "Run": {}, "Weigh": {}, "Forget": {}, "": {}}
	for i, of := range kinds() {
		for try := range 2 {
			c := chance(100*i + try)
			w := newWalk(t, of, &c)
			for round := range 4000 {
				what, e := w.step(round/150%2 == 0)
				seen[what][e]++
				if round%5 == 0 {
					w.same(of.groups + 1)
				}
				w.heights()
			}
		}
	}
	for what, l := range map[string][]api.Errno{
		"Enter": {api.OK, api.ErrTwice, api.ErrLoop, api.ErrArg, api.ErrRange}, "Leave": {api.OK, api.ErrNone}, "Run": {api.OK, api.ErrNone, api.ErrRange}, "Weigh": {api.OK, api.ErrNone, api.ErrArg}, "Forget": {api.OK, api.ErrBusy},
	} {
		for _, e := range l {
			if seen[what][e] < 100 {
				t.Errorf("%s told %v %d times", what, e, seen[what][e])
			}
			delete(seen[what], e)
		}
		if len(seen[what]) > 0 {
			t.Errorf("%s told %v, too", what, seen[what])
		}
	}
}

func TestWhoIsPickedIsInNoShutGroup(t *testing.T) { // P16.5
	for i, of := range kinds() {
		c := chance(1000 + i)
		w := newWalk(t, of, &c)
		picked := 0
		for round := range 3000 {
			w.step(round/150%2 == 0)
			shut := w.shut()
			id := w.l.Pick(shut)
			if id == 0 {
				continue
			}
			picked++
			if !slices.Contains(w.l.Tasks(), id) {
				t.Fatalf("%d is none of %v", id, w.l.Tasks())
			}
			for _, group := range w.l.Way(id) {
				if slices.Contains(shut, group) {
					t.Fatalf("%d is in %d, and that is in %v", id, group, shut)
				}
			}
		}
		if picked < 500 {
			t.Errorf("kind %d: %d were picked", i, picked)
		}
	}
}

func TestLagsOfTasksAreKept(t *testing.T) { // P16.5: who leaves, and enters any lane, by any path, has its lag there
	for i, of := range kinds() {
		c := chance(2000 + i)
		l := []*walk{newWalk(t, of, &c), newWalk(t, of, &c), newWalk(t, of, &c)}
		moved := 0
		for round := range 3000 {
			for _, w := range l {
				w.step(round/150%2 == 0)
			}
			from, to := l[c.upTo(2)], l[c.upTo(2)]
			m, e := from.leave(from.task())
			if e != api.OK {
				continue
			}
			path := to.way(c.upTo(of.groups))
			if to.enter(m, path...) != api.OK {
				continue
			}
			moved++
			if got, is := to.l.Get(m.Id); got != m || !is || !slices.Contains(to.l.Queue(next(path)), m) {
				t.Fatalf("%v is %v there", m, got)
			}
		}
		if moved < 200 {
			t.Errorf("kind %d: %d moved", i, moved)
		}
		for _, w := range l {
			w.same(of.groups + 1)
		}
	}
}

func TestFailedEntersLeaveNothingBehind(t *testing.T) { // P16.1, R3: another lane, with which the same is done without them, goes on alike
	for i, of := range kinds() {
		c := chance(3000 + i)
		w := newWalk(t, of, &c)
		other := lane.New()
		for round := range 3000 {
			grow := round/150%2 == 0
			m, path, id := w.member(), w.way(c.upTo(of.groups)), w.task()
			switch c.upTo(4) {
			case 0, 1:
				if w.enter(m, path...) == api.OK {
					must(t, other.Enter(path, m))
				}
			case 2:
				if w.run(id) == api.OK {
					must(t, other.Run(id))
				}
			case 3:
				if grow && c.upTo(1) == 0 {
					continue
				}
				if want, e := w.leave(id); e == api.OK {
					if got, e := other.Leave(id); got != want || e != api.OK {
						t.Fatalf("%v, %v, not %v", got, e, want)
					}
				}
			case 4:
				if weight := w.wrong(1 + c.some(of.weight-1)); w.weigh(id, weight) == api.OK {
					must(t, other.Weigh(id, weight))
				}
			}
			for group := range of.groups + 1 {
				if !slices.Equal(w.l.Queue(group), other.Queue(group)) || w.l.Base(group) != other.Base(group) {
					t.Fatalf("the queue of %d: %v, and %v", group, w.l.Queue(group), other.Queue(group))
				}
			}
			list(t, other.Tasks(), w.l.Tasks()...)
		}
	}
}

func TestSameInWhateverOrder(t *testing.T) { // R6: what is told hangs on who is there, not on the order in which they came
	c := chance(4)
	parents, weights := map[int]int{1: 0, 2: 1, 3: 1, 4: 2, 5: 0, 6: 5}, map[int]int{1: 3, 2: 1, 3: 2, 4: 5, 5: 1, 6: 7}
	var first *lane.Lane
	for range 40 {
		l := lane.New()
		ids := make([]int, 50)
		for i := range ids {
			ids[i] = 100 + i
		}
		for i := range ids {
			k := c.upTo(i)
			ids[i], ids[k] = ids[k], ids[i]
		}
		for _, id := range ids {
			var path []api.Step
			for group := id % 7; group > 0; group = parents[group] {
				path = append(path, api.Step{Id: group, Weight: weights[group]})
			}
			must(t, l.Enter(path, ahead(id, 1+id%3, id*id%11, 0)))
		}
		if first == nil {
			first = l
		}
		for _, id := range append(slices.Collect(maps.Keys(parents)), 0) {
			if !slices.Equal(l.Queue(id), first.Queue(id)) {
				t.Fatalf("%v, and %v", l.Queue(id), first.Queue(id))
			}
			number(t, l.Pick([]int{id}), first.Pick([]int{id}))
		}
		list(t, l.Tasks(), first.Tasks()...)
	}
}

func TestSharesGoByWeight(t *testing.T) { // P16.2, P16.3: who is picked runs; of siblings none is further ahead of another one than a tick of its own takes it, and one
	p := newPair(t)
	must(t, p.enter(ahead(11, 3, 0, 0), up(1, 2)...), p.enter(ahead(12, 1, 0, 0), up(1, 2)...), p.enter(ahead(13, 2, 0, 0), up(2, 5, 1, 2)...), p.enter(ahead(14, 7, 0, 0), up(3, 3)...), p.enter(ahead(15, 1, 0, 0), up(4, 1, 3, 3)...), p.enter(ahead(16, 4, 0, 0)))
	for range 2000 {
		must(t, p.run(p.pick()))
		for group := range 5 {
			for _, m := range p.l.Queue(group) {
				if m.Lag.V > tick/m.Weight+1 {
					t.Fatalf("in %d %v is too far", group, m)
				}
			}
		}
	}
	p.same(20)
}
