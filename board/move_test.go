package board_test

import (
	"testing"

	"diapause/api"
)

// grove is a board of two cores with the groups 1, 2 in 1, 3 in 2, and 4, with 5 in it; tasks are in all of them, on both cores, ran a while, and 31 runs on core 0, 42 on core 1.
func grove(t *testing.T) pair {
	t.Helper()
	p := newPair(t, 2)
	must(t, p.group(heavy(1, 0, 3)), p.group(heavy(2, 1, 2)), p.group(heavy(3, 2, 7)), p.group(heavy(4, 0, 2)), p.group(heavy(5, 4, 1)))
	for _, group := range []int{1, 2, 3, 4, 5} {
		must(t, p.spawn(10*group+1, group, group, 1), p.spawn(10*group+2, group, 2, 2))
	}
	must(t, p.spawn(61, 3, 5, 1), p.sleep(61), p.spawn(62, 3, 1, 4))
	for p.m.cur[0] != 31 || p.m.now < 9 {
		p.ticks(0, 1)
		must(t, p.pass(1))
	}
	for p.m.cur[1] != 42 || p.m.now < 20 {
		p.ticks(1, 1)
		must(t, p.pass(1))
	}
	p.same(70)
	return p
}

// all is what is told of all tasks.
func (p pair) all() []api.TaskInfo {
	var l []api.TaskInfo
	for _, id := range p.b.Tasks() {
		t, _ := p.b.Task(id)
		l = append(l, t)
	}
	return l
}

// unmoved fails if one of the tasks isn't as it was.
func (p pair) unmoved(was []api.TaskInfo) {
	p.t.Helper()
	for i, now := range p.all() {
		if now != was[i] {
			p.t.Fatalf("%v is %v now", was[i], now)
		}
	}
}

func TestMove(t *testing.T) { // P17.2: who is moved stays on its core, has its lag, and runs, if it ran; whoever is asleep, or parked, stays so
	for _, to := range []struct{ id, parent int }{{1, 4}, {2, 0}, {2, 4}, {2, 5}, {3, 0}, {3, 1}, {3, 4}, {4, 3}, {5, 0}, {5, 1}, {2, 1}, {1, 0}} {
		p := grove(t)
		was := p.all()
		must(t, p.move(to.id, to.parent))
		p.unmoved(was)
		number(t, p.b.Cur(0), 31)
		number(t, p.b.Cur(1), 42)
		if g, _ := p.b.One(to.id); g.Parent != to.parent {
			t.Errorf("%d is below %d", to.id, g.Parent)
		}
		p.same(70)
		for range 40 {
			p.ticks(0, 1)
			p.ticks(1, 1)
		}
		must(t, p.wake(61), p.bind(62, 1))
		p.ticks(0, 40)
	}
}

func TestMoveTakesAllAlong(t *testing.T) { // P17.2
	p := grove(t)
	must(t, p.move(2, 5))
	list(t, p.b.Under(0), 0, 1, 4, 5, 2, 3)
	list(t, p.b.Under(1), 1)
	must(t, p.move(1, 3))
	list(t, p.b.Under(0), 0, 4, 5, 2, 3, 1)
	must(t, p.move(3, 0))
	list(t, p.b.Under(0), 0, 3, 1, 4, 5, 2)
	p.same(70)
}

func TestMovedAwayAndBack(t *testing.T) { // P17.2: goes on as if nothing had been
	moved, stayed := grove(t), grove(t)
	must(t, moved.move(2, 5), moved.move(1, 4), moved.move(1, 0), moved.move(2, 1))
	moved.unmoved(stayed.all())
	for range 100 {
		list(t, moved.ticks(0, 1), stayed.ticks(0, 1)...)
		list(t, moved.ticks(1, 1), stayed.ticks(1, 1)...)
	}
	moved.unmoved(stayed.all())
}

func TestMoveErrorsInOrder(t *testing.T) { // P17.2, R2, R3: each error is told though those behind it apply
	p := deep(t)
	must(t, p.group(below(20, 0)), p.group(below(21, 20)), p.spawn(50, 3, 1, 1), p.mark(maxDeep, true))
	for _, id := range append(strange(), 0, 50, 99) {
		p.alike(p.move(id, maxDeep), api.ErrNone)
		p.alike(p.move(id, 0), api.ErrNone)
	}
	for _, id := range append(strange(), 50, 99) {
		p.alike(p.move(1, id), api.ErrNone)
		p.alike(p.move(maxDeep, id), api.ErrNone)
	}
	p.alike(p.move(maxDeep, maxDeep), api.ErrLoop)
	p.alike(p.move(1, 1), api.ErrLoop)
	p.alike(p.move(3, maxDeep), api.ErrLoop)
	p.alike(p.move(20, 21), api.ErrLoop)
	p.alike(p.move(21, maxDeep), api.ErrDeep)
	p.alike(p.move(20, maxDeep-1), api.ErrDeep)
	p.alike(p.move(1, 20), api.ErrDeep)
	p.alike(p.move(2, 21), api.ErrDeep)
	p.alike(p.move(3, 21), api.ErrCold)
	p.alike(p.move(maxDeep, 0), api.ErrCold)
	must(t, p.mark(maxDeep, false), p.mark(20, true))
	p.alike(p.move(3, 21), api.ErrCold)
	p.alike(p.move(21, 0), api.ErrCold)
	p.alike(p.move(20, 0), api.ErrCold)
	p.alike(p.move(2, 0), api.OK)
	must(t, p.mark(20, false), p.move(4, 21), p.move(20, maxDeep-14))
	number(t, len(p.m.way(maxDeep)), maxDeep)
	p.same(60)
}

func TestColdOnesDoNotMove(t *testing.T) { // P17.2: one below id, id, or parent: each by itself
	for _, marked := range []int{1, 2, 3, 4, 5} {
		for _, to := range []struct{ id, parent int }{{2, 5}, {3, 4}, {4, 2}, {5, 0}, {1, 5}, {3, 0}} {
			p := grove(t)
			must(t, p.mark(marked, true))
			p.alike(p.move(to.id, to.parent), p.m.move(to.id, to.parent))
		}
	}
	p := grove(t)
	must(t, p.mark(3, true))
	p.alike(p.move(1, 4), api.ErrCold)
	p.alike(p.move(4, 3), api.ErrCold)
	p.alike(p.move(4, 2), api.OK)
	must(t, p.mark(3, false), p.mark(4, true))
	p.alike(p.move(5, 0), api.ErrCold)
	p.alike(p.move(3, 5), api.ErrCold)
	p.alike(p.move(3, 1), api.OK)
}

// cramped is a board of two cores, on whose core 0 nobody who is ahead can join the queue of group 2, which had its quota. Group 1 isn't ahead there, and runs on both cores.
func cramped(t *testing.T) pair {
	t.Helper()
	p := newPair(t, 2)
	far := ahead(20, 2, 1, maxFar-tick, 0)
	far.Cores = 1
	must(t, p.group(below(1, 0)), p.group(limited(2, 0, 10, 1)), p.group(below(3, 1)), p.adopt(far))
	list(t, p.ticks(0, 2), 20, 0)
	p.lag(20, 0, 0)
	must(t, p.spawn(11, 3, 1, 1), p.spawn(12, 1, 1, 2), p.spawn(13, 3, 1, 2), p.spawn(30, 0, 1, 1), p.spawn(31, 0, 1, 2))
	list(t, p.ticks(0, 1), 11)
	list(t, p.ticks(1, 3), 13, 31, 12)
	return p
}

func TestMoveParksWhomNoLaneTakes(t *testing.T) { // P17.2: where Enter tells an error that one is parked, and runs no more
	p := cramped(t)
	list(t, p.ticks(0, 2), 30, 11)
	must(t, p.move(1, 2))
	p.is(11, api.Parked, -1)
	p.lag(11, 0, 0)
	p.is(12, api.Ready, 1)
	p.is(13, api.Ready, 1)
	number(t, p.b.Cur(0), 0)
	number(t, p.b.Cur(1), 12)
	tell(t, p.sleep(11), api.ErrState)
	tell(t, p.place(11), api.OK)
	p.is(11, api.Parked, -1)
	p.same(40)
	list(t, p.ticks(0, 2), 30, 30)
	must(t, p.pass(10))
	list(t, p.ticks(1, 2), 31, 31)
	must(t, p.bind(11, 3))
	p.is(11, api.Parked, -1)
	must(t, p.spawn(32, 0, 1, 1), p.spawn(33, 0, 1, 1), p.spawn(34, 0, 1, 1), p.place(11))
	p.is(11, api.Ready, 1)
	p.same(40)
}

func TestMoveLeavesOthersRunning(t *testing.T) { // P17.2: who is Cur stays so, if it is not parked
	p := cramped(t)
	must(t, p.move(1, 2))
	p.is(11, api.Ready, 0)
	number(t, p.b.Cur(0), 11)
	number(t, p.b.Cur(1), 12)
	p = cramped(t)
	must(t, p.pass(10))
	list(t, p.ticks(0, 1), 20)
	must(t, p.move(1, 2))
	p.is(11, api.Parked, -1)
	number(t, p.b.Cur(0), 20)
	number(t, p.b.Cur(1), 12)
	p.same(40)
}

func TestTicksBehindAMoveAreChargedThere(t *testing.T) { // P17.2, P17.4
	p := newPair(t, 1)
	must(t, p.group(limited(1, 0, 10, 9)), p.group(limited(2, 0, 10, 9)), p.group(limited(3, 1, 10, 9)), p.spawn(5, 3, 1, 1))
	p.ticks(0, 3)
	must(t, p.move(3, 2))
	p.ticks(0, 4)
	p.used(1, 2)
	p.used(2, 4)
	p.used(3, 6)
}
