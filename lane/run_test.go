package lane_test

import (
	"slices"
	"testing"

	"diapause/api"
)

func TestLeaveOfWhoIsNoTask(t *testing.T) { // P16.2, R3: active groups are none, nor those that aren't
	p := made(t)
	for _, id := range append(strange(), 0, 1, 2, 3, 4, 5, 6, 7, 8, 9, 30, 1<<32+20) {
		m, e := p.leave(id)
		tell(t, e, api.ErrNone)
		if m != (api.Member{}) {
			t.Fatalf("%d leaves as %v", id, m)
		}
		p.same(40)
	}
	for _, id := range []int{20, 21, 22, 23, 24, 25} {
		want, _ := p.l.Get(id)
		if got, e := p.leave(id); got != want || e != api.OK {
			t.Fatalf("%v leaves as %v, %v", want, got, e)
		}
		p.same(40)
		if got, e := p.leave(id); got != (api.Member{}) || e != api.ErrNone {
			t.Fatalf("%d leaves again: %v, %v", id, got, e)
		}
	}
	list(t, p.l.Tasks())
	number(t, len(p.l.Queue(0)), 0)
}

func TestGroupsLeaveWithTheLast(t *testing.T) { // P16.2: as far up as a queue without members is left
	for beside := range 4 {
		p := newPair(t)
		path := up(3, 2, 2, 3, 1, 5)
		must(t, p.enter(task(10), path...))
		if beside < 3 {
			must(t, p.enter(task(11), path[beside+1:]...))
		}
		for range 4 {
			must(t, p.run(10))
		}
		base := p.l.Base(3)
		number(t, base, 4*tick)
		m, e := p.leave(10)
		must(t, e)
		if m != task(10) {
			t.Fatalf("%v", m)
		}
		for i, id := range []int{3, 2, 1} {
			if _, is := p.l.Get(id); is != (i > beside) {
				t.Fatalf("beside %d: %d is active: %v", beside, id, is)
			}
		}
		// The bases stay.
		number(t, p.l.Base(3), base)
		p.same(20)
		must(t, p.enter(task(10), path...))
		p.same(20)
		number(t, p.l.Base(3), base)
	}
}

func TestGroupsStayWithOthers(t *testing.T) { // P16.2: tasks and groups in the queue hold it alike
	p := newPair(t)
	must(t, p.enter(task(10), up(2, 1, 1, 1)...), p.enter(task(11), up(3, 1, 1, 1)...), p.enter(task(12), up(1, 1)...), p.enter(task(13), up(3, 1, 1, 1)...))
	for _, x := range []struct {
		id   int
		left []int
	}{{12, []int{1, 2, 3}}, {10, []int{1, 3}}, {11, []int{1, 3}}, {13, nil}} {
		_, e := p.leave(x.id)
		must(t, e)
		p.same(20)
		for id := 1; id <= 3; id++ {
			if _, is := p.l.Get(id); is != slices.Contains(x.left, id) {
				t.Fatalf("without %d: %d is active: %v", x.id, id, is)
			}
		}
	}
}

func TestLagIsKeptWithTheWeightOfThen(t *testing.T) { // P16.2: the one that Weigh gave, if it did
	for _, weight := range []int{1, 2, 3, 11, 1000, maxWeight} {
		p := newPair(t)
		must(t, p.enter(task(9)), p.enter(task(10), up(2, 7)...), p.run(10), p.weigh(2, weight))
		was, _ := p.l.Get(2)
		_, e := p.leave(10)
		must(t, e, p.enter(task(10), up(2, weight)...))
		if m, _ := p.l.Get(2); m != was {
			t.Fatalf("%v, not %v", m, was)
		}
		p.same(20)
		_, e = p.leave(10)
		must(t, e, p.enter(task(10), up(2, 13)...))
		if m, _ := p.l.Get(2); m != ahead(2, 13, was.Lag.V, was.Lag.Rem*13/weight) {
			t.Fatalf("%v", m)
		}
		p.same(20)
	}
}

func TestNewestLagIsKept(t *testing.T) { // P16.2: not the one of a time ahead of that
	p := newPair(t)
	must(t, p.enter(task(9)))
	for ticks := range 6 {
		must(t, p.enter(task(10), up(2, 3)...))
		for range ticks {
			must(t, p.run(10))
		}
		want, _ := p.l.Get(2)
		_, e := p.leave(10)
		must(t, e)
		if ticks%2 == 1 {
			must(t, p.run(9))
		}
		must(t, p.enter(task(10), up(2, 3)...))
		if m, _ := p.l.Get(2); m != want {
			t.Fatalf("%v, not %v", m, want)
		}
		p.same(20)
		_, e = p.leave(10)
		must(t, e)
	}
}

func TestRunOfWhoIsNoTask(t *testing.T) { // P16.2, R3
	p := made(t)
	for _, id := range append(strange(), 0, 1, 2, 3, 4, 5, 6, 7, 8, 9, 30, 1<<32+20) {
		tell(t, p.run(id), api.ErrNone)
		p.same(40)
	}
}

func TestRunGoesUp(t *testing.T) { // P16.2: a tick in each queue, by the weight there
	p := newPair(t)
	must(t, p.enter(task(10), up(3, 2, 2, 3, 1, 5)...), p.enter(task(11), up(3, 2, 2, 3, 1, 5)...), p.enter(task(12), up(2, 3, 1, 5)...), p.enter(task(13), up(1, 5)...), p.enter(task(14)))
	for n := 1; n < 9; n++ {
		must(t, p.run(10))
		p.same(20)
		for id, weight := range map[int]int{10: 1, 3: 2, 2: 3, 1: 5} {
			if m, _ := p.l.Get(id); m != ahead(id, weight, n*tick/weight, n*tick%weight) {
				t.Fatalf("%v behind %d ticks", m, n)
			}
		}
		for id := 11; id <= 14; id++ {
			if m, _ := p.l.Get(id); m != task(id) {
				t.Fatalf("%v", m)
			}
		}
	}
	for id := range 5 {
		number(t, p.l.Base(id), 0)
	}
	// Each queue has a base of its own.
	must(t, p.run(13))
	number(t, p.l.Base(1), tick)
	number(t, p.l.Base(0), 0)
	must(t, p.run(14), p.run(11))
	number(t, p.l.Base(3), tick)
	number(t, p.l.Base(2), 0)
	number(t, p.l.Base(0), tick)
	p.same(20)
}

func TestRunTooFar(t *testing.T) { // P16.2, R3: a task that is too far in its queue; MaxFar itself can be, and what is left over doesn't count
	for _, path := range [][]api.Step{up(), up(1, 1), up(2, 3, 1, 5)} {
		for _, x := range []struct {
			weight, v, rem int
			want           api.Errno
		}{
			{1, maxFar, 0, api.ErrRange}, {1, maxFar - tick + 1, 0, api.ErrRange}, {1, maxFar - tick, 0, api.OK}, {3, maxFar - 349525, 1, api.OK}, {3, maxFar - 349525, 2, api.ErrRange}, {3, maxFar - 349524, 0, api.ErrRange}, {maxWeight, maxFar - 1, maxWeight - 1, api.OK}, {maxWeight, maxFar, 0, api.ErrRange},
		} {
			p := newPair(t)
			must(t, p.enter(ahead(10, x.weight, x.v, x.rem), path...))
			for range 2 {
				p.same(20)
				tell(t, p.run(10), x.want)
				p.same(20)
				if x.want == api.OK {
					break
				}
			}
		}
	}
}

func TestRunTooFarFromTheBase(t *testing.T) { // P16.2: how far one is, is the base and the lag together
	for _, room := range []int{0, 1, tick - 1, tick, tick + 1, 2*tick - 1, 2 * tick} {
		for _, path := range [][]api.Step{up(), up(1, 1), up(2, 3, 1, 5)} {
			p := high(t, room, path...)
			must(t, p.enter(task(10), path...))
			for n := range 3 {
				want := api.OK
				if (n+1)*tick > room {
					want = api.ErrRange
				}
				tell(t, p.run(10), want)
				p.same(20)
			}
		}
	}
}

func TestRunOfGroupsThatAreTooFar(t *testing.T) { // P16.2, R3: whichever one on the way up can't, none of them runs, and no base rises
	for long := range 4 {
		for _, weight := range []int{1, 3} {
			path := up()
			for i := range long + 1 {
				path = append(path, api.Step{Id: 10 + i, Weight: weight})
			}
			// The queue above the path's last group is near MaxFar: it can go one tick there.
			above := up(5, 1, 4, 1)
			room := tick/weight + tick/weight/2
			p := high(t, room, above...)
			path = append(path, above...)
			must(t, p.enter(ahead(20, 2, 3, 1), path...), p.enter(ahead(21, 2, 7, 0), path[min(1, long):]...))
			must(t, p.run(20))
			p.same(30)
			was, _ := p.l.Get(20)
			for range 2 {
				tell(t, p.run(20), api.ErrRange)
				tell(t, p.run(21), api.ErrRange)
				p.same(30)
			}
			if m, _ := p.l.Get(20); m != was {
				t.Fatalf("%v, not %v", m, was)
			}
			number(t, p.l.Base(5), maxFar-room)
			// Somewhere else it runs on.
			m, e := p.leave(20)
			must(t, e, p.enter(m), p.run(20))
			p.same(30)
		}
	}
}

func TestRunThatCantLeavesBases(t *testing.T) { // P16.2, R3: the base of a queue would rise, and that of the one above it can't
	p := newPair(t)
	must(t, p.enter(task(10), up(1, 1)...), p.enter(ahead(11, 1, 5*tick, 0), up(1, 1)...), p.enter(ahead(12, 1, maxFar-tick, 0)), p.run(10), p.run(10))
	_, e := p.leave(10)
	must(t, e)
	_, e = p.leave(11)
	must(t, e, p.run(12))
	number(t, p.l.Base(0), maxFar)
	p.leave(12)
	must(t, p.forget(1), p.enter(task(10), up(1, 1)...), p.enter(ahead(11, 1, 5*tick, 0), up(1, 1)...))
	for range 3 {
		tell(t, p.run(10), api.ErrRange)
		tell(t, p.run(11), api.ErrRange)
		number(t, p.l.Base(1), 0)
		p.same(20)
	}
}
