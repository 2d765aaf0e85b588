package lane_test

import (
	"math"
	"slices"
	"testing"

	"diapause/api"
)

func TestGetAndWay(t *testing.T) { // P16.4: of tasks, and of active groups but 0
	p := made(t)
	for id, way := range map[int][]int{20: nil, 21: {1}, 22: {2, 1}, 23: {3, 2, 1}, 24: {4, 1}, 25: {5}, 1: nil, 2: {1}, 3: {2, 1}, 4: {1}, 5: nil} {
		list(t, p.l.Way(id), way...)
		m, is := p.l.Get(id)
		in := 0
		if len(way) > 0 {
			in = way[0]
		}
		if !is || m.Id != id || !slices.Contains(p.l.Queue(in), m) {
			t.Fatalf("%v, %v", m, is)
		}
	}
	for _, id := range append(strange(), 0, 6, 7, 8, 9, 30, 1<<32+20) {
		list(t, p.l.Way(id))
		if m, is := p.l.Get(id); m != (api.Member{}) || is {
			t.Fatalf("%v, %v", m, is)
		}
	}
}

func TestTasksRise(t *testing.T) { // P16.4: wherever they are, and no groups among them
	p := newPair(t)
	var want []int
	for i := range 60 {
		id := 1 + i*37%61
		path := up(100+id%4, 1, 200+id%2, 1)
		must(t, p.enter(ahead(id, 1, 100-id, 0), path[id%3:]...))
		want = append(want, id)
		slices.Sort(want)
		list(t, p.l.Tasks(), want...)
	}
	for len(want) > 0 {
		at := len(want) * 2 / 3
		_, e := p.leave(want[at])
		must(t, e)
		want = slices.Delete(want, at, at+1)
		list(t, p.l.Tasks(), want...)
	}
}

func TestQueueAndBase(t *testing.T) { // P16.4: of each group, that of tasks too
	p := newPair(t)
	must(t, p.enter(ahead(10, 2, 40, 1), up(2, 3)...), p.enter(ahead(11, 1, 5, 0), up(2, 3)...), p.enter(ahead(9, 1, 5, 0), up(2, 3)...), p.enter(task(3)))
	if got := p.l.Queue(2); !slices.Equal(got, []api.Member{ahead(9, 1, 5, 0), ahead(11, 1, 5, 0), ahead(10, 2, 40, 1)}) {
		t.Fatalf("%v", got)
	}
	if got := p.l.Queue(0); !slices.Equal(got, []api.Member{ahead(2, 3, 0, 0), task(3)}) {
		t.Fatalf("%v", got)
	}
	must(t, p.run(10))
	number(t, p.l.Base(2), 5)
	for _, id := range append(strange(), 1, 3, 9, 10, 11, 1<<32+2) {
		number(t, len(p.l.Queue(id)), 0)
		number(t, p.l.Base(id), 0)
	}
}

func TestWeigh(t *testing.T) { // P16.4: in its queue, with the Rem of Reweigh; nothing else changes
	for _, id := range []int{10, 2, 1} {
		for _, weight := range []int{1, 2, 5, 6, 1000, maxWeight - 1, maxWeight} {
			p := newPair(t)
			must(t, p.enter(ahead(10, 7, 9, 3), up(2, 7, 1, 7)...), p.enter(task(11), up(2, 7, 1, 7)...), p.enter(task(12)), p.run(10))
			was, _ := p.l.Get(id)
			must(t, p.weigh(id, weight))
			if m, _ := p.l.Get(id); m != ahead(id, weight, was.Lag.V, was.Lag.Rem*weight/7) {
				t.Fatalf("%v was %v", m, was)
			}
			p.same(20)
			must(t, p.run(10), p.run(11))
			p.same(20)
		}
	}
}

func TestErrorsOfWeigh(t *testing.T) { // P16.4, R2, R3
	p := made(t)
	for _, id := range append(strange(), 0, 6, 7, 8, 9, 30, 1<<32+20) {
		for _, weight := range []int{1, 0, -1, maxWeight + 1} {
			tell(t, p.weigh(id, weight), api.ErrNone)
		}
	}
	for _, id := range []int{20, 23, 1, 3, 5} {
		for _, weight := range []int{0, -1, maxWeight + 1, math.MinInt, math.MaxInt, 1<<32 + 1} {
			tell(t, p.weigh(id, weight), api.ErrArg)
		}
	}
	p.same(40)
}

func TestForget(t *testing.T) { // P16.4: the base, and the lag that was kept
	p, _, _ := kept(t)
	must(t, p.enter(task(12), up(2, 7)...), p.run(12))
	was, _ := p.l.Get(2)
	_, e := p.leave(12)
	must(t, e)
	number(t, p.l.Base(2), tick)
	number(t, p.l.Base(3), 10*tick)
	must(t, p.forget(3))
	p.same(20)
	number(t, p.l.Base(3), 0)
	number(t, p.l.Base(2), tick)
	// The one that was above it keeps its lag.
	must(t, p.enter(task(10), up(3, 5, 2, 7)...))
	if m, _ := p.l.Get(3); m != ahead(3, 5, 0, 0) {
		t.Fatalf("%v", m)
	}
	if m, _ := p.l.Get(2); m != was || m.Lag != (api.Pace{V: 11 * tick / 7, Rem: 11 * tick % 7}) {
		t.Fatalf("%v", m)
	}
	p.leave(10)
	must(t, p.forget(2), p.forget(2))
	p.same(20)
	must(t, p.enter(task(10), up(2, 7)...))
	if m, _ := p.l.Get(2); m != ahead(2, 7, 0, 0) {
		t.Fatalf("%v", m)
	}
	p.same(20)
}

func TestForgetKeepsThoseBelow(t *testing.T) { // P16.4: of the group alone
	p := newPair(t)
	must(t, p.enter(task(9), up(2, 7)...), p.enter(task(10), up(3, 5, 2, 7)...), p.run(10))
	for _, id := range []int{9, 10} {
		_, e := p.leave(id)
		must(t, e)
	}
	must(t, p.forget(2), p.enter(task(10), up(3, 5, 2, 7)...))
	if m, _ := p.l.Get(3); m != ahead(3, 5, tick/5, tick%5) {
		t.Fatalf("%v", m)
	}
	number(t, p.l.Base(3), tick)
	number(t, p.l.Base(2), 0)
	p.same(20)
}

func TestForgetOfActiveGroups(t *testing.T) { // P16.4, R3
	p := made(t)
	for _, id := range []int{0, 1, 2, 3, 4, 5} {
		tell(t, p.forget(id), api.ErrBusy)
		p.same(40)
	}
	// None has members whose Id is a task's, or nobody's.
	for _, id := range append(strange(), 20, 23, 25, 7, 17, 1<<32+1) {
		must(t, p.forget(id))
		p.same(40)
	}
	must(t, p.forget(6), p.forget(8))
	p.same(40)
	must(t, p.enter(task(30), up(9, 3, 8, 3, 1, 2)...), p.enter(task(31), up(6, 7)...))
	p.same(40)
}

func TestForgetOfTheTop(t *testing.T) { // P16.4: of 0 the base alone is kept
	p := newPair(t)
	must(t, p.enter(task(10), up(2, 1)...), p.run(10), p.run(10))
	tell(t, p.forget(0), api.ErrBusy)
	_, e := p.leave(10)
	must(t, e)
	number(t, p.l.Base(0), 2*tick)
	p.same(20)
	must(t, p.forget(0))
	number(t, p.l.Base(0), 0)
	number(t, p.l.Base(2), 2*tick)
	p.same(20)
	must(t, p.enter(ahead(10, 1, maxFar-2*tick, 0), up(2, 1)...), p.enter(ahead(11, 1, maxFar, 0)))
	p.same(20)
}

func TestForgetOfAGroupWithATasksId(t *testing.T) { // P16.4: the task stays
	p, _, _ := kept(t)
	must(t, p.enter(ahead(2, 9, 77, 5)), p.run(2), p.forget(2))
	p.same(20)
	number(t, p.l.Base(2), 0)
	_, e := p.leave(2)
	must(t, e, p.enter(task(10), up(2, 7)...))
	if m, _ := p.l.Get(2); m != ahead(2, 7, 0, 0) {
		t.Fatalf("%v", m)
	}
	p.same(20)
}

func TestAskingChangesNothing(t *testing.T) { // P16.3, P16.4
	p := made(t)
	for range 3 {
		for _, id := range append(strange(), 0, 1, 2, 6, 7, 8, 20, 23) {
			p.l.Get(id)
			p.l.Way(id)
			p.l.Queue(id)
			p.l.Base(id)
			p.l.Pick([]int{id})
		}
		p.l.Pick(nil)
		p.l.Tasks()
		p.same(40)
	}
	// Who is picked is next till it runs.
	id := p.pick()
	number(t, p.pick(), id)
	must(t, p.run(id))
	p.same(40)
}

func TestListsAreMemoryOfTheirOwn(t *testing.T) { // R5: those that are told, and the path, that isn't kept
	p := made(t)
	path := up(17, 3, 2, 3, 1, 2)
	must(t, p.enter(task(7), path...))
	clear(path)
	p.same(40)
	way, tasks, members := p.l.Way(7), p.l.Tasks(), p.l.Queue(0)
	for _, l := range [][]int{p.l.Way(7), p.l.Tasks(), p.l.Way(23)} {
		for i := range l {
			l[i] = -7
		}
		_ = append(l[:0], 77, 78, 79)
	}
	clear(p.l.Queue(0))
	clear(p.l.Queue(1))
	p.same(40)
	keptWay, keptTasks, keptMembers := slices.Clone(way), slices.Clone(tasks), slices.Clone(members)
	_, e := p.leave(7)
	must(t, e, p.run(20), p.run(25), p.weigh(1, 9), p.enter(task(8), up(6, 1)...))
	p.leave(20)
	if !slices.Equal(way, keptWay) || !slices.Equal(tasks, keptTasks) || !slices.Equal(members, keptMembers) {
		t.Errorf("what was told changed to %v, %v, %v", way, tasks, members)
	}
	p.same(40)
}
