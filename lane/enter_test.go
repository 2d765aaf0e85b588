package lane_test

import (
	"math"
	"slices"
	"testing"

	"diapause/api"
)

func TestNew(t *testing.T) { // P16.1, P16.2, P16.3, P16.4
	p := newPair(t)
	p.same(20)
	list(t, p.l.Tasks())
	number(t, p.l.Pick(nil), 0)
	for _, id := range append(strange(), 0, 1, 2) {
		_, e := p.leave(id)
		for _, e := range []api.Errno{e, p.run(id), p.weigh(id, 1), p.weigh(id, 0)} {
			tell(t, e, api.ErrNone)
		}
		tell(t, p.forget(id), api.OK)
	}
	p.same(20)
}

func TestLanesAreApart(t *testing.T) { // P16.1, R6
	a, b := newPair(t), newPair(t)
	for id := 10; id < 30; id++ {
		must(t, a.enter(ahead(id, 1, 3*id, 0), up(id%3+1, 2)...), b.enter(ahead(id, 2, id, 1), up(id%2+1, 1, 9, 5)...), a.run(id))
		if id%4 == 0 {
			b.leave(id)
			b.run(id - 1)
		}
		a.same(30)
		b.same(30)
	}
}

func TestEnterOfOne(t *testing.T) { // P16.1: by paths of all lengths, each group joins the next one's queue
	for long := range 20 {
		p := newPair(t)
		var path []api.Step
		var groups []int
		for i := range long {
			path = append(path, api.Step{Id: 100 - 3*i, Weight: i + 1})
			groups = append(groups, 100-3*i)
		}
		m := ahead(7, 5, 12, 4)
		must(t, p.enter(m, path...))
		p.same(110)
		list(t, p.l.Way(7), groups...)
		list(t, p.l.Tasks(), 7)
		number(t, p.l.Pick(nil), 7)
		if got, is := p.l.Get(7); got != m || !is {
			t.Fatalf("%v, %v", got, is)
		}
		for i, step := range path {
			if got, is := p.l.Get(step.Id); got != (api.Member{Id: step.Id, Weight: step.Weight}) || !is {
				t.Fatalf("%v, %v", got, is)
			}
			list(t, p.l.Way(step.Id), groups[i+1:]...)
		}
		for i := range path {
			number(t, len(p.l.Queue(path[i].Id)), 1)
		}
		number(t, len(p.l.Queue(0)), 1)
	}
}

func TestEnterBesideOthers(t *testing.T) { // P16.1: no further up than to the first queue that has members
	p := newPair(t)
	must(t, p.enter(task(20), up(3, 2, 2, 5, 1, 7)...))
	must(t, p.run(20), p.run(20))
	for i, path := range [][]api.Step{up(), up(1, 7), up(2, 5, 1, 7), up(3, 2, 2, 5, 1, 7), up(4, 2, 3, 2, 2, 5, 1, 7), up(5, 1, 1, 7), up(6, 9)} {
		must(t, p.enter(task(21+i), path...))
		p.same(40)
		// What joined is without a lag; what was there is as far as it was.
		for _, id := range []int{1, 2, 3} {
			if m, is := p.l.Get(id); m.Lag.V != 0 && id != 1 || !is {
				t.Fatalf("%v, %v", m, is)
			}
		}
	}
	number(t, len(p.l.Queue(0)), 3)
	number(t, len(p.l.Queue(1)), 3)
	number(t, len(p.l.Queue(2)), 2)
	number(t, len(p.l.Queue(3)), 3)
	list(t, p.l.Way(25), 4, 3, 2, 1)
}

func TestWeightsOfActiveGroupsPlayNoPart(t *testing.T) { // P16.1: path's weight is for those that join
	p := newPair(t)
	must(t, p.enter(task(20), up(3, 2, 2, 5)...))
	for i, weight := range []int{0, -1, 9, maxWeight, maxWeight + 1, math.MinInt, math.MaxInt} {
		must(t, p.enter(task(21+i), up(3, weight, 2, weight)...), p.enter(task(41+i), up(2, weight)...), p.enter(task(61+i), up(100+i, 4, 3, weight, 2, weight)...))
		p.same(110)
	}
	for id, weight := range map[int]int{3: 2, 2: 5, 100: 4} {
		m, _ := p.l.Get(id)
		number(t, m.Weight, weight)
	}
}

// made is a lane with the tasks 20 to 25, and the groups 3 below 2 below 1, 4 below 1, and 5. The groups 8 and 9 were below 1, and the group 6 below 5.
func made(t *testing.T) pair {
	t.Helper()
	p := newPair(t)
	must(t, p.enter(task(30), up(9, 3, 8, 3, 1, 1)...), p.enter(task(31), up(6, 7, 5, 2)...), p.enter(task(32), up(8, 3, 1, 1)...), p.enter(task(33), up(5, 7)...))
	for range 3 {
		must(t, p.run(30), p.run(31), p.run(32))
	}
	for id := 30; id <= 33; id++ {
		_, e := p.leave(id)
		must(t, e)
	}
	must(t, p.enter(task(20)), p.enter(task(21), up(1, 2)...), p.enter(task(22), up(2, 3, 1, 2)...), p.enter(task(23), up(3, 4, 2, 3, 1, 2)...), p.enter(task(24), up(4, 5, 1, 2)...), p.enter(task(25), up(5, 6)...))
	must(t, p.run(20), p.run(23), p.run(24), p.run(25), p.run(22))
	p.same(40)
	return p
}

func TestErrorsOfEnter(t *testing.T) { // P16.1, R2, R3: each reason by itself, and ahead of all that are named behind it
	p := made(t)
	for _, x := range []struct {
		m    api.Member
		path []api.Step
		want api.Errno
	}{
		// A task of that Id: whatever else there is.
		{task(20), nil, api.ErrTwice}, {task(23), nil, api.ErrTwice}, {task(23), up(3, 4, 2, 3, 1, 2), api.ErrTwice}, {task(25), up(25, 1), api.ErrTwice}, {task(22), up(1, 1, 1, 1), api.ErrTwice},
		{task(22), up(0, 1), api.ErrTwice}, {task(22), up(20, 1), api.ErrTwice}, {task(22), up(3, 1), api.ErrTwice}, {task(22), up(7, 0), api.ErrTwice}, {api.Member{Id: 22}, nil, api.ErrTwice}, {ahead(24, 1, -1, 0), nil, api.ErrTwice},
		// The Id of an active group.
		{task(1), nil, api.ErrLoop}, {task(2), nil, api.ErrLoop}, {task(3), up(1, 2), api.ErrLoop}, {task(5), up(1, 2), api.ErrLoop}, {api.Member{Id: 4}, nil, api.ErrLoop}, {ahead(5, 2, 0, 2), up(7, 0), api.ErrLoop},
		// The Id is in path.
		{task(7), up(7, 1), api.ErrLoop}, {task(7), up(7, 1, 1, 2), api.ErrLoop}, {task(7), up(17, 1, 7, 1, 1, 2), api.ErrLoop}, {task(7), up(17, 1, 18, 1, 7, 1), api.ErrLoop}, {task(6), up(6, 1), api.ErrLoop}, {task(8), up(8, 1, 1, 2), api.ErrLoop},
		{api.Member{Id: 7}, up(7, 0), api.ErrLoop}, {task(maxId + 1), up(maxId+1, 1), api.ErrLoop},
		// An Id is in path twice.
		{task(7), up(17, 1, 17, 1), api.ErrLoop}, {task(7), up(17, 1, 18, 1, 17, 1), api.ErrLoop}, {task(7), up(16, 1, 17, 1, 18, 1, 18, 1), api.ErrLoop}, {task(7), up(6, 1, 6, 1), api.ErrLoop}, {task(7), up(17, 1, 18, 1, 19, 1, 16, 1, 17, 1), api.ErrLoop},
		{task(7), up(3, 4, 2, 3, 1, 2, 1, 2), api.ErrLoop}, {task(7), up(1, 2, 1, 2), api.ErrLoop}, {api.Member{Id: 7}, up(17, 0, 17, 0), api.ErrLoop}, {task(7), up(maxId+1, 1, maxId+1, 1), api.ErrLoop},
		// One below 1.
		{task(7), up(0, 1), api.ErrLoop}, {task(7), up(-1, 1), api.ErrLoop}, {task(7), up(math.MinInt, 1), api.ErrLoop}, {task(7), up(1, 2, 0, 1), api.ErrLoop}, {task(7), up(17, 1, 0, 1), api.ErrLoop}, {task(7), up(17, 1, -5, 1, 18, 1), api.ErrLoop},
		{task(7), up(0, 1, 1, 2), api.ErrLoop}, {task(0), up(0, 1), api.ErrLoop}, {task(-1), up(-1, 1), api.ErrLoop}, {api.Member{Id: 7}, up(17, 0, 0, 0), api.ErrLoop}, {task(-7), up(-1<<32+1, 1), api.ErrLoop},
		// That of a task.
		{task(7), up(20, 1), api.ErrLoop}, {task(7), up(22, 1, 2, 3, 1, 2), api.ErrLoop}, {task(7), up(17, 1, 21, 1, 1, 2), api.ErrLoop}, {task(7), up(17, 1, 18, 1, 25, 1), api.ErrLoop}, {api.Member{Id: 7}, up(17, 0, 20, 0), api.ErrLoop},
		// An active group that isn't in the queue of the next one.
		{task(7), up(2, 3), api.ErrLoop}, {task(7), up(3, 4), api.ErrLoop}, {task(7), up(3, 4, 2, 3), api.ErrLoop}, {task(7), up(3, 4, 1, 2), api.ErrLoop}, {task(7), up(1, 2, 5, 6), api.ErrLoop}, {task(7), up(1, 2, 17, 1), api.ErrLoop}, {task(7), up(4, 5, 2, 3, 1, 2), api.ErrLoop},
		{task(7), up(2, 3, 1, 2, 5, 6), api.ErrLoop}, {task(7), up(3, 4, 2, 3, 1, 2, 17, 1), api.ErrLoop}, {task(7), up(1, 2, 2, 3), api.ErrLoop}, {task(7), up(17, 1, 3, 4), api.ErrLoop}, {task(7), up(17, 1, 5, 6, 1, 2), api.ErrLoop}, {task(7), up(5, 6, 4, 5, 1, 2), api.ErrLoop}, {task(7), up(2, 3, 17, 1, 1, 2), api.ErrLoop},
		{api.Member{Id: 7}, up(3, 4), api.ErrLoop}, {task(7), up(17, 0, 2, 3), api.ErrLoop}, {ahead(7, 1, maxFar, 1), up(2, 3), api.ErrLoop}, {task(7), up(6, 7, 5, 6, 1, 2), api.ErrLoop},
		// The task can't be.
		{task(0), nil, api.ErrArg}, {task(-1), nil, api.ErrArg}, {task(maxId + 1), nil, api.ErrArg}, {task(math.MinInt), up(1, 2), api.ErrArg}, {task(math.MaxInt), up(17, 1), api.ErrArg}, {task(1<<32 + 20), nil, api.ErrArg},
		{api.Member{Id: 7}, nil, api.ErrArg}, {api.Member{Id: 7, Weight: -1}, up(1, 2), api.ErrArg}, {api.Member{Id: 7, Weight: maxWeight + 1}, up(17, 1), api.ErrArg}, {ahead(7, 3, -1, 0), nil, api.ErrArg}, {ahead(7, 3, maxFar+1, 0), up(17, 1, 1, 2), api.ErrArg}, {ahead(7, 3, 0, 3), nil, api.ErrArg}, {ahead(7, 3, 0, -1), up(6, 7, 5, 6), api.ErrArg}, {api.Member{}, nil, api.ErrArg},
		// One of the groups that join can't be.
		{task(7), up(17, 0), api.ErrArg}, {task(7), up(17, -1), api.ErrArg}, {task(7), up(17, maxWeight+1), api.ErrArg}, {task(7), up(17, math.MinInt, 1, 2), api.ErrArg}, {task(7), up(17, math.MaxInt, 5, 6), api.ErrArg}, {task(7), up(maxId+1, 1), api.ErrArg}, {task(7), up(1<<32+1, 1), api.ErrArg}, {task(7), up(math.MaxInt, 1, 2, 3, 1, 2), api.ErrArg},
		{task(7), up(17, 1, 18, 0), api.ErrArg}, {task(7), up(17, 1, 18, 0, 1, 2), api.ErrArg}, {task(7), up(17, 1, 18, 1, 19, 0), api.ErrArg}, {task(7), up(17, 0, 18, 1, 19, 1), api.ErrArg}, {task(7), up(17, 1, maxId+1, 1, 4, 5, 1, 2), api.ErrArg}, {task(7), up(6, 0, 5, 6), api.ErrArg}, {task(7), up(9, 3, 8, 0, 1, 2), api.ErrArg}, {task(7), up(9, 5, 8, 5, 19, -1, 1, 2), api.ErrArg},
	} {
		if e := p.enter(x.m, x.path...); e != x.want {
			t.Errorf("Enter(%v, %v) = %v, not %v", x.path, x.m, e, x.want)
		}
		p.same(40)
	}
	// What was kept ahead of all these is kept still.
	must(t, p.enter(task(7), up(9, 3, 8, 3, 1, 2)...), p.enter(task(17), up(6, 7, 5, 6)...))
	p.same(40)
}

func TestPathsThatMayBe(t *testing.T) { // P16.1: groups that aren't active may be below any
	for _, path := range [][]api.Step{
		up(), up(1, 2), up(2, 3, 1, 2), up(3, 4, 2, 3, 1, 2), up(4, 5, 1, 2), up(5, 6),
		up(6, 1), up(6, 1, 5, 6), up(6, 1, 1, 2), up(6, 1, 3, 4, 2, 3, 1, 2), up(8, 1, 9, 1), up(9, 1, 8, 1), up(9, 1, 17, 1, 8, 1, 5, 6), up(17, 1), up(maxId, maxWeight), up(maxId-1, 1, maxId, 1, 5, 6), up(30, 1, 31, 1),
	} {
		for _, id := range []int{7, 30, maxId - 2} {
			if next(path) == id {
				continue
			}
			p := made(t)
			must(t, p.enter(ahead(id, 3, 5, 2), path...))
			p.same(40)
			var groups []int
			for _, step := range path {
				groups = append(groups, step.Id)
			}
			list(t, p.l.Way(id), groups...)
			_, e := p.leave(id)
			must(t, e)
			p.same(40)
		}
	}
}

// kept is a lane in which group 2 has a lag that is kept, of weight 7: v, and rem. The group 3 was below it, by the weight 5, with what 10 ticks are. Task 9 is in the queue of 0, which has the base 0.
func kept(t *testing.T) (p pair, v, rem int) {
	t.Helper()
	p = newPair(t)
	must(t, p.enter(task(9)), p.enter(task(10), up(3, 5, 2, 7)...), p.enter(task(11), up(2, 7)...))
	for range 10 {
		must(t, p.run(10))
	}
	for _, id := range []int{10, 11} {
		_, e := p.leave(id)
		must(t, e)
	}
	return p, 10 * tick / 7, 10 * tick % 7
}

func TestLagsOfGroupsAreKept(t *testing.T) { // P16.1, P16.2: with the Rem of Reweigh, from the weight that it had
	for to := range 30 {
		p, v, rem := kept(t)
		must(t, p.enter(task(10), up(2, to+1)...))
		if m, is := p.l.Get(2); m != ahead(2, to+1, v, rem*(to+1)/7) || !is {
			t.Fatalf("%v, %v", m, is)
		}
		p.same(20)
		// Cut off it leaves again, and what was cut off doesn't come back.
		_, e := p.leave(10)
		must(t, e, p.enter(task(10), up(2, 7)...))
		if m, _ := p.l.Get(2); m != ahead(2, 7, v, rem*(to+1)/7*7/(to+1)) {
			t.Fatalf("%v", m)
		}
		p.same(20)
	}
}

func TestLagsAreKeptFromOneParentToAnother(t *testing.T) { // P16.1: it is the group's, whichever queue it was in
	p, v, rem := kept(t)
	must(t, p.enter(ahead(12, 1, 5*tick, 0), up(4, 1)...), p.run(12))
	must(t, p.enter(task(10), up(2, 7, 4, 1)...))
	number(t, p.l.Base(4), 6*tick)
	if m, _ := p.l.Get(2); m != ahead(2, 7, v, rem) {
		t.Fatalf("%v", m)
	}
	p.same(20)
	must(t, p.enter(task(13), up(3, 5, 2, 7, 4, 1)...))
	if m, _ := p.l.Get(3); m != ahead(3, 5, 2*tick, 0) {
		t.Fatalf("%v", m)
	}
	p.same(20)
}

func TestFailedEntersKeepLags(t *testing.T) { // P16.1, R3: what joined and is taken back is not kept by the new weight
	for _, path := range [][]api.Step{
		up(2, 3, 5, 0), up(2, 3, 5, 1, maxId+1, 1), up(2, maxWeight, 5, 2, 6, -1), up(3, 2, 2, 3, 5, 0), up(3, 2, 2, 0), up(3, 1, 2, 1, maxId+1, 1), up(2, 0), up(4, 1, 2, 5, 3, 0), up(4, 1, 3, 1, 2, 0),
	} {
		p, v, rem := kept(t)
		for range 3 {
			tell(t, p.enter(task(10), path...), api.ErrArg)
			p.same(20)
		}
		must(t, p.enter(task(10), up(3, 5, 2, 7)...))
		if m, _ := p.l.Get(2); m != ahead(2, 7, v, rem) {
			t.Fatalf("by %v: %v", path, m)
		}
		if m, _ := p.l.Get(3); m != ahead(3, 5, 2*tick, 0) {
			t.Fatalf("by %v: %v", path, m)
		}
		p.same(20)
	}
}

// high is a lane in which the queue of a group, at the end of a path, has the base MaxFar - room, and nobody but task 99; the groups above it are far, too, if room is less than a tick.
func high(t *testing.T, room int, path ...api.Step) pair {
	t.Helper()
	p := newPair(t)
	must(t, p.enter(ahead(99, 1, maxFar-room-tick, 0), path...), p.run(99))
	number(t, p.l.Base(next(path)), maxFar-room)
	return p
}

func TestEnterTooFar(t *testing.T) { // P16.1: the base and the lag together, in whichever queue; MaxFar itself can be
	for _, room := range []int{0, 1, 2 * tick} {
		for _, path := range [][]api.Step{up(), up(1, 1), up(2, 3, 1, 4)} {
			p := high(t, room, path...)
			for i, v := range []int{0, room, room + 1, room + tick, maxFar} {
				want := api.OK
				if v > room {
					want = api.ErrRange
				}
				tell(t, p.enter(ahead(20+i, 2, v, 1), path...), want)
				p.same(30)
			}
		}
	}
}

func TestGroupsTooFar(t *testing.T) { // P16.1, R3: the lag that was kept, and the base of the queue that it joins
	for long := range 5 {
		path, above := up(), up()
		for i := range long {
			path = append(path, api.Step{Id: 10 + i, Weight: i + 1})
		}
		above = append(append(above, path...), api.Step{Id: 2, Weight: 1})
		for _, room := range []int{3*tick - 1, 3 * tick, 3*tick + 1} {
			p := newPair(t)
			// Group 2 goes three ticks, and leaves with what that makes.
			must(t, p.enter(task(50)), p.enter(task(51), up(2, 1)...), p.run(51), p.run(51), p.run(51))
			_, e := p.leave(51)
			must(t, e)
			_, e = p.leave(50)
			must(t, e, p.enter(ahead(99, 1, maxFar-room-tick, 0)), p.run(99))
			number(t, p.l.Base(0), maxFar-room)
			want := api.OK
			if room < 3*tick {
				want = api.ErrRange
			}
			for range 2 {
				tell(t, p.enter(task(60), above...), want)
				p.same(60)
				if want == api.OK {
					p.leave(60)
				}
			}
			// Below another one it has room.
			must(t, p.enter(task(60), append(above, up(3, 1)...)...))
			p.same(60)
		}
	}
}

func TestFullQueues(t *testing.T) { // P16.1, R3: a task, or a group, that finds no room in whichever queue
	for long := range 3 {
		p := newPair(t)
		full := up()
		for i := range long {
			full = append(full, api.Step{Id: 10 + i, Weight: 2})
		}
		for id := 100; id < 100+maxEach; id++ {
			tell(t, p.l.Enter(full, ahead(id, 1, id, 0)), api.OK)
		}
		was := p.l.Queue(next(full))
		for _, below := range [][]api.Step{up(), up(1, 1), up(1, 1, 2, 1), up(3, 4, 1, 2, 2, 9)} {
			tell(t, p.l.Enter(append(slices.Clone(below), full...), task(50)), api.ErrFull)
			for id := range 20 {
				_, is := p.l.Get(id)
				if _, known := p.l.Get(50); known || is != (id >= 10 && id < 10+long) {
					t.Fatalf("%d: %v; the task: %v", id, is, known)
				}
				if id < 10 && id > 0 && (len(p.l.Queue(id)) > 0 || p.l.Base(id) != 0) {
					t.Fatalf("%d has %v", id, p.l.Queue(id))
				}
			}
			if got := p.l.Queue(next(full)); !slices.Equal(got, was) {
				t.Fatal("the full queue has changed")
			}
			// One that goes makes room for one.
			m, e := p.l.Leave(100)
			must(t, e, p.l.Enter(append(slices.Clone(below), full...), task(50)))
			tell(t, p.l.Enter(full, m), api.ErrFull)
			_, e = p.l.Leave(50)
			must(t, e, p.l.Enter(full, m))
		}
		// An active group has room for more below it, as the full queue has it already.
		_, e := p.l.Leave(100)
		must(t, e, p.l.Enter(append(up(1, 1), full...), task(50)), p.l.Enter(append(up(1, 1), full...), task(51)), p.l.Enter(append(up(2, 7, 1, 1), full...), task(52)))
		tell(t, p.l.Enter(append(up(2, 7), full...), task(53)), api.ErrLoop)
		tell(t, p.l.Enter(append(up(3, 7), full...), task(53)), api.ErrFull)
	}
}

func TestFirstErrorOnTheWayUp(t *testing.T) { // P16.1, R2: one behind the other
	p, _, _ := kept(t)
	must(t, p.enter(task(12), up(3, 1)...), p.run(12))
	p.leave(12)
	number(t, p.l.Base(3), 11*tick)
	for _, x := range []struct {
		m    api.Member
		path []api.Step
		want api.Errno
	}{
		{ahead(20, 1, maxFar, 0), up(3, 0), api.ErrRange}, {ahead(20, 1, maxFar-11*tick+1, 0), up(3, 0), api.ErrRange}, {ahead(20, 1, maxFar-11*tick, 0), up(3, 0), api.ErrArg}, {ahead(20, 1, maxFar+1, 0), up(3, 1), api.ErrArg}, {ahead(20, 1, maxFar, 0), up(3, 1, 4, 0), api.ErrRange}, {ahead(20, 1, 0, 0), up(3, 1, 4, 0), api.ErrArg},
	} {
		tell(t, p.enter(x.m, x.path...), x.want)
		p.same(20)
	}
	// The group is too far for a queue above which one can't be; and the other way about.
	p = newPair(t)
	must(t, p.enter(task(9)), p.enter(task(10), up(2, 1)...), p.run(10), p.enter(ahead(11, 1, maxFar-tick, 0), up(4, 1)...), p.run(11))
	for _, id := range []int{10, 11} {
		_, e := p.leave(id)
		must(t, e)
	}
	number(t, p.l.Base(4), maxFar)
	tell(t, p.enter(task(12), up(2, 1, 4, 0)...), api.ErrRange)
	tell(t, p.enter(task(12), up(5, 0, 2, 1, 4, 1)...), api.ErrArg)
	tell(t, p.enter(task(12), up(2, 0, 4, 1)...), api.ErrArg)
	tell(t, p.enter(task(12), up(2, 1, 4, 1)...), api.ErrRange)
	p.same(20)
	must(t, p.enter(task(12), up(5, 1, 4, 1)...))
	p.same(20)
}

func TestTasksMayHaveTheIdOfAGroupThatWas(t *testing.T) { // P16.1: the group's queue and its lag are kept apart from the task
	p, v, rem := kept(t)
	must(t, p.enter(ahead(2, 9, 77, 5)))
	p.same(20)
	number(t, p.l.Base(2), 0)
	if m, is := p.l.Get(2); m != ahead(2, 9, 77, 5) || !is {
		t.Fatalf("%v, %v", m, is)
	}
	tell(t, p.enter(task(10), up(2, 7)...), api.ErrLoop)
	must(t, p.run(2), p.weigh(2, 4))
	p.same(20)
	_, e := p.leave(2)
	must(t, e, p.enter(task(10), up(2, 7)...))
	if m, _ := p.l.Get(2); m != ahead(2, 7, v, rem) {
		t.Fatalf("%v", m)
	}
	tell(t, p.enter(task(2)), api.ErrLoop)
	p.same(20)
}

func TestLongPaths(t *testing.T) { // P16.1, P16.2, P16.3, P16.4: no way up is too long
	const long = 1 << 16
	p := newPair(t)
	var path []api.Step
	for id := 1; id <= long; id++ {
		path = append(path, api.Step{Id: id, Weight: 1 + id%2})
	}
	l := p.l
	must(t, l.Enter(path, task(maxId)))
	number(t, l.Pick(nil), maxId)
	number(t, l.Pick([]int{long}), 0)
	number(t, l.Pick([]int{1}), 0)
	way := l.Way(maxId)
	number(t, len(way), long)
	for i, id := range way {
		number(t, id, i+1)
	}
	must(t, l.Run(maxId))
	number(t, l.Base(0), tick/(1+long%2))
	number(t, l.Base(1), tick)
	tell(t, l.Enter(path, task(maxId-1)), api.OK)
	tell(t, l.Enter(path[:long-1], task(maxId-2)), api.ErrLoop)
	tell(t, l.Enter(append(path[:long:long], path[0]), task(maxId-2)), api.ErrLoop)
	for _, id := range []int{maxId, maxId - 1} {
		_, e := l.Leave(id)
		must(t, e)
	}
	number(t, len(l.Queue(0)), 0)
	number(t, len(l.Queue(long)), 0)
	// The last one can't join: all the others are out again.
	path[long-1].Weight = 0
	tell(t, l.Enter(path, task(maxId)), api.ErrArg)
	for id := range long + 1 {
		if _, is := l.Get(id); is || len(l.Queue(id)) > 0 {
			t.Fatalf("%d is active", id)
		}
	}
	list(t, l.Tasks())
}
