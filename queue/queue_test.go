package queue_test

import (
	"math"
	"slices"
	"testing"

	"diapause/api"
	"diapause/queue"
)

func TestExamples(t *testing.T) { // P7.1, P7.2, P7.3
	q := queue.New()
	must(t, q.Join(member(1, 1)), q.Join(member(2, 2)), q.Run(1, 1))
	if m, is := q.Get(1); m != ahead(1, 1, 1048576, 0) || !is || q.Base() != 0 {
		t.Errorf("%v, %v; the base is %d", m, is, q.Base())
	}
	must(t, q.Run(2, 1))
	if q.Base() != 524288 {
		t.Errorf("the base is %d", q.Base())
	}
	if l := q.All(); !slices.Equal(l, []api.Member{member(2, 2), ahead(1, 1, 524288, 0)}) {
		t.Errorf("%v", l)
	}
	if mean, is := q.Mean(); mean != (2*524288+1048576)/3 || !is {
		t.Errorf("the mean is %d, %v", mean, is)
	}
}

func TestWithoutMembers(t *testing.T) { // P7.1, P7.2, P7.3, P7.4
	p := newPair(t)
	for round := range 3 {
		p.same()
		if l := p.q.All(); len(l) != 0 || p.q.Base() != round*5*tick {
			t.Fatalf("round %d: %v; the base is %d", round, l, p.q.Base())
		}
		for _, id := range []int{1, 0, -1, maxId, maxId + 1, math.MinInt, math.MaxInt} {
			_, e := p.leave(id)
			for _, e := range []api.Errno{e, p.run(id, 1), p.run(id, -1), p.weigh(id, 1), p.weigh(id, 0)} {
				if e != api.ErrNone {
					t.Fatalf("of %d, who is not there: %v", id, e)
				}
			}
		}
		if mean, is := p.q.Mean(); mean != 0 || is {
			t.Fatalf("the mean is %d, %v", mean, is)
		}
		// Whoever leaves as the last one leaves the base where it is.
		must(t, p.join(member(7, 1)), p.run(7, 5))
		if m, e := p.leave(7); m != member(7, 1) || e != api.OK {
			t.Fatalf("%v, %v", m, e)
		}
	}
}

func TestJoinOfWhatCantBe(t *testing.T) { // P7.1
	p := newPair(t)
	must(t, p.join(ahead(5, 3, 9, 2)))
	for _, m := range []api.Member{
		member(0, 1), member(-1, 1), member(maxId+1, 1), member(math.MinInt, 1), member(math.MaxInt, 1), member(1<<32+1, 1),
		member(1, 0), member(1, -1), member(1, maxWeight+1), member(1, math.MinInt), member(1, math.MaxInt), member(1, 1<<32+1), {},
		ahead(1, 1, -1, 0), ahead(1, 1, maxFar+1, 0), ahead(1, 1, math.MinInt, 0), ahead(1, 1, math.MaxInt, 0), ahead(1, 1, 1<<62, 0),
		ahead(1, 1, 0, 1), ahead(1, 7, 0, 7), ahead(1, 7, 0, -1), ahead(1, 7, 0, math.MaxInt), ahead(1, 7, 0, math.MinInt), ahead(1, maxWeight, 0, maxWeight),
	} {
		if e := p.join(m); e != api.ErrArg {
			t.Errorf("Join(%v) = %v", m, e)
		}
		p.same()
	}
}

func TestJoinAtTheEdges(t *testing.T) { // P7.1, P7.2
	for _, m := range []api.Member{
		member(1, 1), member(maxId, 1), member(1, maxWeight), member(maxId, maxWeight),
		ahead(1, 1, maxFar, 0), ahead(1, 7, 0, 6), ahead(2, maxWeight, maxFar, maxWeight-1), ahead(3, 2, 1, 1),
	} {
		p := newPair(t)
		must(t, p.join(m))
		p.same()
		if got, is := p.q.Get(m.Id); got != m || !is || p.q.Base() != 0 {
			t.Errorf("%v is told as %v, %v", m, got, is)
		}
		if got, e := p.leave(m.Id); got != m || e != api.OK {
			t.Errorf("%v leaves as %v, %v", m, got, e)
		}
		p.same()
	}
}

func TestJoinReckonsFromTheBase(t *testing.T) { // P7.1: the base and the lag together, up to MaxFar
	for _, base := range []int{1, tick, maxFar / 2, maxFar - 1, maxFar} {
		p := newPair(t)
		must(t, p.join(ahead(9, 2, base, 1)), p.run(9, 0))
		if p.q.Base() != base {
			t.Fatalf("the base is %d, not %d", p.q.Base(), base)
		}
		room := maxFar - base
		for i, v := range []int{0, room / 3, max(room-1, 0), room} {
			if e := p.join(ahead(i+1, 4, v, 3)); e != api.OK {
				t.Fatalf("from %d on, by %d: %v", base, v, e)
			}
			p.same()
		}
		for _, v := range []int{room + 1, maxFar} {
			if e := p.join(ahead(100, 4, v, 3)); e != api.ErrRange {
				t.Fatalf("from %d on, by %d: %v", base, v, e)
			}
			p.same()
		}
	}
}

// full is a queue that has all it may have, with the base a tick below MaxFar; nobody in it has the Id 1, nor that one.
func full(t *testing.T, but int) pair {
	t.Helper()
	p := newPair(t)
	must(t, p.join(ahead(1, 1, maxFar-tick, 0)), p.run(1, 0))
	p.leave(1)
	for id := 2; len(p.m.all) < maxEach; id++ {
		if id != but {
			must(t, p.join(member(id, id%5+1)))
		}
	}
	return p
}

func TestFull(t *testing.T) { // P7.1, P7.2
	p := full(t, 50)
	if l := p.q.All(); len(l) != maxEach {
		t.Fatalf("there are %d", len(l))
	}
	for _, id := range []int{1, 50, maxId} {
		if e := p.join(member(id, 1)); e != api.ErrFull {
			t.Fatalf("%d: %v", id, e)
		}
	}
	p.same()
	// Room is there again as soon as one leaves, and for one only.
	_, e := p.leave(77)
	must(t, e, p.join(member(50, 1)))
	if e := p.join(member(77, 1)); e != api.ErrFull {
		t.Fatal(e)
	}
	p.same()
}

func TestFirstErrorOfJoin(t *testing.T) { // P7.1, R2: each with all that are named behind it
	p := full(t, 50)
	for _, x := range []struct {
		m    api.Member
		want api.Errno
	}{
		{ahead(60, 0, tick+1, 0), api.ErrArg},
		{ahead(60, 2, tick+1, 2), api.ErrArg},
		{ahead(60, 2, maxFar+1, 0), api.ErrArg},
		{ahead(0, 2, tick+1, 0), api.ErrArg},
		{ahead(60, 2, tick+1, 1), api.ErrTwice},
		{ahead(50, 2, tick+1, 1), api.ErrFull},
		{ahead(50, 2, tick, 1), api.ErrFull},
	} {
		if e := p.join(x.m); e != x.want {
			t.Errorf("Join(%v) = %v, not %v", x.m, e, x.want)
		}
	}
	p.leave(61)
	if e := p.join(ahead(50, 2, tick+1, 1)); e != api.ErrRange {
		t.Error(e)
	}
	if e := p.join(ahead(60, 2, tick+1, 1)); e != api.ErrTwice {
		t.Error(e)
	}
	must(t, p.join(ahead(50, 2, tick, 1)))
	p.same()
}

func TestTwice(t *testing.T) { // P7.1, P7.2
	p := newPair(t)
	must(t, p.join(ahead(4, 3, 5, 1)), p.join(ahead(6, 3, 5, 1)))
	for _, m := range []api.Member{ahead(4, 3, 5, 1), member(4, 1), ahead(6, 9, maxFar, 8)} {
		if e := p.join(m); e != api.ErrTwice {
			t.Errorf("Join(%v) = %v", m, e)
		}
		p.same()
	}
	_, e := p.leave(4)
	must(t, e, p.join(member(4, 1)))
	p.same()
}

func TestLeave(t *testing.T) { // P7.2: the least one too leaves the base where it is, and nobody else changes
	p := newPair(t)
	must(t, p.join(member(3, 1)), p.join(ahead(1, 2, 50, 1)), p.join(ahead(2, 2, 50, 0)), p.run(3, 0))
	for _, want := range []api.Member{member(3, 1), ahead(2, 2, 50, 0), ahead(1, 2, 50, 1)} {
		if got, e := p.leave(want.Id); got != want || e != api.OK || p.q.Base() != 0 {
			t.Errorf("%v leaves as %v, %v; the base is %d", want, got, e, p.q.Base())
		}
		p.same()
		if got, e := p.leave(want.Id); got != (api.Member{}) || e != api.ErrNone {
			t.Errorf("%d leaves again: %v, %v", want.Id, got, e)
		}
	}
}

func TestRunByTicks(t *testing.T) { // P7.3
	for _, weight := range []int{1, 2, 3, 7, 1000, maxWeight - 1, maxWeight} {
		for _, ticks := range []int{0, 1, 2, 3, 1000, maxTicks - 1, maxTicks} {
			p := newPair(t)
			rem := weight / 2
			must(t, p.join(ahead(8, weight, 12, rem)), p.join(member(9, 1)), p.run(8, ticks))
			// Nine stands at the base, so that the lag is how far it went.
			m, _ := p.q.Get(8)
			if gone := tick*ticks + rem; m != ahead(8, weight, 12+gone/weight, gone%weight) || p.q.Base() != 0 {
				t.Errorf("by %d, %d ticks: %v", weight, ticks, m)
			}
			must(t, p.run(8, 1))
			p.same()
		}
	}
}

func TestErrorsOfRun(t *testing.T) { // P7.3, R2, R3
	p := newPair(t)
	must(t, p.join(ahead(2, 3, maxFar, 1)), p.join(ahead(4, 3, 7, 2)))
	for _, x := range []struct {
		id, ticks int
		want      api.Errno
	}{
		{3, 1, api.ErrNone}, {3, -1, api.ErrNone}, {0, maxTicks + 1, api.ErrNone}, {-2, 0, api.ErrNone}, {math.MinInt, 1, api.ErrNone}, {math.MaxInt, 1, api.ErrNone}, {1<<32 + 2, 1, api.ErrNone},
		{4, -1, api.ErrArg}, {4, maxTicks + 1, api.ErrArg}, {4, math.MinInt, api.ErrArg}, {4, math.MaxInt, api.ErrArg}, {4, 1 << 44, api.ErrArg},
		{2, maxTicks + 1, api.ErrArg}, {2, -1, api.ErrArg}, {2, 1, api.ErrRange}, {2, maxTicks, api.ErrRange},
	} {
		if e := p.run(x.id, x.ticks); e != x.want {
			t.Errorf("Run(%d, %d) = %v, not %v", x.id, x.ticks, e, x.want)
		}
		p.same()
		if p.q.Base() != 0 {
			t.Fatalf("the base is %d", p.q.Base())
		}
	}
}

func TestRunUpToTheEnd(t *testing.T) { // P7.3: MaxFar itself can be, one above can't, and what is left over doesn't count
	for _, x := range []struct {
		weight, v, rem, ticks int
		want                  api.Errno
	}{
		{1, maxFar - tick, 0, 1, api.OK}, {1, maxFar - tick + 1, 0, 1, api.ErrRange}, {1, maxFar, 0, 0, api.OK},
		{3, maxFar - 349525, 0, 1, api.OK}, {3, maxFar - 349524, 0, 1, api.ErrRange},
		{3, maxFar - 349525, 1, 1, api.OK}, {3, maxFar - 349525, 2, 1, api.ErrRange},
		{maxWeight, maxFar - 1, maxWeight - 1, 1, api.OK}, {maxWeight, maxFar, maxWeight - 1, 1, api.ErrRange}, {maxWeight, maxFar, maxWeight - 1, 0, api.OK},
		{1, maxFar - tick*maxTicks, 0, maxTicks, api.OK}, {1, maxFar - tick*maxTicks + 1, 0, maxTicks, api.ErrRange},
	} {
		p := newPair(t)
		must(t, p.join(ahead(2, x.weight, x.v, x.rem)), p.join(member(1, 1)))
		if e := p.run(2, x.ticks); e != x.want {
			t.Errorf("%v: %v", x, e)
		}
		if p.q.Base() != 0 {
			t.Errorf("the base is %d", p.q.Base())
		}
		p.same()
	}
}

func TestRangeLeavesTheBase(t *testing.T) { // P7.3, R3: the base would rise, if that were no error
	p := newPair(t)
	must(t, p.join(ahead(1, 1, 40, 0)), p.join(ahead(2, 1, maxFar, 0)))
	for range 2 {
		if e := p.run(2, 1); e != api.ErrRange || p.q.Base() != 0 {
			t.Fatalf("%v; the base is %d", e, p.q.Base())
		}
		if e := p.run(2, -1); e != api.ErrArg || p.q.Base() != 0 {
			t.Fatalf("%v; the base is %d", e, p.q.Base())
		}
	}
	p.same()
}

func TestOnlyRunMovesTheBase(t *testing.T) { // P7.2, P7.3
	p := newPair(t)
	base := func(want int) {
		t.Helper()
		p.same()
		if got := p.q.Base(); got != want {
			t.Fatalf("the base is %d, not %d", got, want)
		}
	}
	must(t, p.join(ahead(1, 1, 100, 0)), p.join(ahead(2, 4, 300, 3)))
	base(0)
	must(t, p.weigh(1, 2), p.weigh(2, 1))
	base(0)
	// Whoever runs, and if it is by nothing: the base is that of the least one.
	must(t, p.run(2, 0))
	base(100)
	_, e := p.leave(1)
	must(t, e)
	base(100)
	must(t, p.run(2, 0))
	base(300)
	must(t, p.join(ahead(3, 1, 5, 0)))
	base(300)
	must(t, p.run(2, 1))
	base(305)
	must(t, p.run(3, 1))
	base(305 + tick - 5)
	// One without a lag holds it where it is.
	must(t, p.join(member(4, 1)), p.run(2, 7), p.run(3, 7))
	base(300 + tick)
	must(t, p.run(4, 2))
	base(300 + 3*tick)
}

func TestWeigh(t *testing.T) { // P7.3
	for _, from := range []int{1, 2, 3, 8, 1023, maxWeight - 1, maxWeight} {
		for _, to := range []int{1, 2, 3, 7, 8, 1024, maxWeight - 1, maxWeight} {
			for _, rem := range []int{0, from / 3, from / 2, from - 1} {
				p := newPair(t)
				must(t, p.join(ahead(1, from, 77, rem)), p.join(member(2, 1)), p.weigh(1, to))
				if m, _ := p.q.Get(1); m != ahead(1, to, 77, rem*to/from) {
					t.Errorf("from %d to %d, by %d left over: %v", from, to, rem, m)
				}
				p.same()
				// From now on it goes by that weight, and leaves with it.
				must(t, p.run(1, 5))
				p.same()
				if m, _ := p.leave(1); m.Weight != to {
					t.Errorf("from %d to %d: it leaves as %v", from, to, m)
				}
			}
		}
	}
}

func TestErrorsOfWeigh(t *testing.T) { // P7.3, R2, R3
	p := newPair(t)
	must(t, p.join(ahead(2, 3, 4, 2)))
	for _, x := range []struct {
		id, weight int
		want       api.Errno
	}{
		{3, 1, api.ErrNone}, {3, 0, api.ErrNone}, {0, maxWeight + 1, api.ErrNone}, {-2, 1, api.ErrNone}, {math.MinInt, 1, api.ErrNone}, {1<<32 + 2, 1, api.ErrNone},
		{2, 0, api.ErrArg}, {2, -1, api.ErrArg}, {2, maxWeight + 1, api.ErrArg}, {2, math.MinInt, api.ErrArg}, {2, math.MaxInt, api.ErrArg}, {2, 1<<32 + 1, api.ErrArg},
	} {
		if e := p.weigh(x.id, x.weight); e != x.want {
			t.Errorf("Weigh(%d, %d) = %v, not %v", x.id, x.weight, e, x.want)
		}
		p.same()
	}
}

func TestAllInOrder(t *testing.T) { // P7.2: by V, of the same V by Id; by nothing else
	want := []api.Member{
		ahead(3, 9, 0, 8), ahead(5, 1, 0, 0), ahead(maxId, 2, 0, 0),
		ahead(1, maxWeight, 1, maxWeight-1), ahead(2, 1, 1, 0), ahead(4, 5, 1, 4),
		ahead(6, 2, 1<<32, 0), ahead(9, 1, maxFar-1, 0), ahead(7, 3, maxFar, 2), ahead(8, 3, maxFar, 0),
	}
	c := chance(1)
	for range 50 {
		p := newPair(t)
		l := slices.Clone(want)
		for i := range l {
			k := c.upTo(i)
			l[i], l[k] = l[k], l[i]
		}
		for _, m := range l {
			must(t, p.join(m))
			p.same()
		}
		if got := p.q.All(); !slices.Equal(got, want) {
			t.Fatalf("joined as %v they are told as %v", l, got)
		}
	}
}

func TestWhoIsNext(t *testing.T) { // P7.2, P7.3: the document's first two examples of the whole
	for _, x := range []struct {
		weights, want []int
	}{
		{[]int{1, 1}, []int{1, 2, 1, 2, 1, 2}},
		{[]int{1, 2}, []int{1, 2, 2, 1, 2, 2}},
		{[]int{3, 1}, []int{1, 2, 1, 1, 1, 2}},
	} {
		q := queue.New()
		for i, weight := range x.weights {
			must(t, q.Join(member(i+1, weight)))
		}
		var ran []int
		for range x.want {
			ran = append(ran, q.All()[0].Id)
			must(t, q.Run(q.All()[0].Id, 1))
		}
		if !slices.Equal(ran, x.want) {
			t.Errorf("by the weights %v: %v", x.weights, ran)
		}
	}
}

func TestMeanAtTheEdges(t *testing.T) { // P7.4
	for _, base := range []int{0, 1, tick - 1, 1<<53 + 1, maxFar - maxApart - 1} {
		for _, v := range []int{0, 1, 2, maxApart - 1, maxApart, maxApart + 1} {
			for _, weight := range []int{1, 2, 3, maxWeight - 1, maxWeight} {
				p := newPair(t)
				must(t, p.join(ahead(1, 5, base, 4)), p.run(1, 0), p.join(ahead(2, weight, v, weight-1)))
				p.same()
				mean, is := p.q.Mean()
				if v <= maxApart != is || is && mean != base+weight*v/(weight+5) || !is && mean != 0 {
					t.Fatalf("from %d on, %d by %d: %d, %v", base, v, weight, mean, is)
				}
				// Without the one at the base lags are as they were: it is the lag that counts, not how far apart all are.
				p.leave(1)
				if mean, is = p.q.Mean(); v <= maxApart != is || is && mean != base+v {
					t.Fatalf("from %d on, %d by %d alone: %d, %v", base, v, weight, mean, is)
				}
				must(t, p.run(2, 0))
				if mean, is = p.q.Mean(); !is || mean != base+v {
					t.Fatalf("from %d on: %d, %v", base+v, mean, is)
				}
			}
		}
	}
}

func TestMeanOfTheGreatestSums(t *testing.T) { // P7.4: all weights together are 2^32 then, which is not above it
	for _, base := range []int{0, maxFar - maxApart} {
		for _, near := range []int{0, 1, maxEach / 2, maxEach - 1} {
			p := newPair(t)
			must(t, p.join(ahead(maxId, 1, base, 0)), p.run(maxId, 0))
			p.leave(maxId)
			for id := 1; id <= maxEach; id++ {
				v := maxApart
				if id <= near {
					v = 0
				}
				must(t, p.join(ahead(id, maxWeight, v, maxWeight-1)))
			}
			p.same()
			if mean, is := p.q.Mean(); !is || mean != base+maxApart/maxEach*(maxEach-near) {
				t.Errorf("%d near ones from %d on: %d, %v", near, base, mean, is)
			}
			// One less by one makes the mean less by less than one: it is rounded down.
			p.leave(maxEach)
			must(t, p.join(ahead(maxEach, maxWeight, maxApart-1, 0)))
			if mean, is := p.q.Mean(); !is || mean != base+maxApart/maxEach*(maxEach-near)-1 {
				t.Errorf("%d near ones from %d on, one less: %d, %v", near, base, mean, is)
			}
		}
	}
}

func TestMeanOfOneThatIsFar(t *testing.T) { // P7.4: one is enough, wherever it stands among the others
	for _, far := range []int{1, 50, 100} {
		p := newPair(t)
		for id := 1; id <= 100; id++ {
			must(t, p.join(ahead(id, id, id, 0)))
		}
		p.leave(far)
		must(t, p.join(ahead(far, 1, maxApart+1, 0)))
		if mean, is := p.q.Mean(); mean != 0 || is {
			t.Fatalf("%d is far: %d, %v", far, mean, is)
		}
		p.leave(far)
		p.same()
		if _, is := p.q.Mean(); !is {
			t.Fatalf("%d left", far)
		}
	}
}
