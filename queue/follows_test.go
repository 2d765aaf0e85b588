package queue_test

import (
	"math"
	"slices"
	"testing"

	"diapause/api"
	"diapause/queue"
)

// kind is what is done with a queue: with how many, of which weights, how far, by how many ticks.
type kind struct{ ids, weight, lag, ticks int }

func kinds() []kind {
	return []kind{
		{1, 1, 0, 1}, {2, 3, 5, 1}, {3, 2, tick, 2}, {8, 9, tick / 2, 1}, {30, maxWeight, 2 * tick, 3},
		{40, 100, maxFar, maxTicks}, {20, maxWeight, maxFar, maxTicks}, {100, 1000, 3, 1}, {maxId, maxWeight, tick, 50}, {5, 2, maxFar, maxTicks},
	}
}

// wrong is a number that is none of those that can be, now and then.
func wrong(c *chance, n int) int {
	if c.upTo(40) > 0 {
		return n
	}
	return []int{0, -1, -n, n + 1<<32, 1<<40 + 1, 1<<20 + 1, 1<<61 + 1, math.MinInt, math.MaxInt}[c.upTo(8)]
}

// id is one that is there, mostly.
func (p pair) id(c *chance, of kind) int {
	if len(p.m.all) > 0 && c.upTo(5) > 0 {
		return p.m.all[c.upTo(len(p.m.all)-1)].id
	}
	return wrong(c, 1+c.some(of.ids-1))
}

// step does anything, and tells an error's number.
func (p pair) step(c *chance, of kind, grow bool) api.Errno {
	p.t.Helper()
	what := c.upTo(9)
	switch {
	case what < 2 || grow && what < 4:
		weight := 1 + c.some(of.weight-1)
		return p.join(ahead(wrong(c, 1+c.upTo(of.ids-1)), wrong(c, weight), wrong(c, c.some(of.lag)), wrong(c, c.upTo(weight-1))))
	case what < 3 || !grow && what < 4:
		_, e := p.leave(p.id(c, of))
		return e
	case what < 5:
		return p.weigh(p.id(c, of), wrong(c, 1+c.some(of.weight-1)))
	case what < 8 && len(p.m.all) > 0:
		return p.run(p.m.told()[0].Id, wrong(c, c.some(of.ticks)))
	}
	return p.run(p.id(c, of), wrong(c, c.some(of.ticks)))
}

func TestWhateverIsDone(t *testing.T) { // P7.1, P7.2, P7.3, P7.4
	seen := map[api.Errno]int{}
	means := map[bool]int{}
	for i, of := range kinds() {
		for try := range 2 {
			p, c := newPair(t), chance(100*i+try)
			for round := range 3000 {
				seen[p.step(&c, of, round/200%2 == 0)]++
				p.same()
				_, is := p.q.Mean()
				means[is]++
			}
		}
	}
	for _, e := range []api.Errno{api.OK, api.ErrArg, api.ErrNone, api.ErrTwice, api.ErrRange} {
		if seen[e] < 100 {
			t.Errorf("%v was told %d times", e, seen[e])
		}
	}
	if means[true] < 1000 || means[false] < 1000 {
		t.Errorf("a mean was told, or not: %v", means)
	}
}

func TestWhatFollows(t *testing.T) { // P7.5
	for i, of := range kinds() {
		p, c := newPair(t), chance(1000+i)
		for round := range 3000 {
			before := p.q.Base()
			p.step(&c, of, round/300%2 == 0)
			if p.q.Base() < before {
				t.Fatalf("the base was %d, and is %d", before, p.q.Base())
			}
			l := p.q.All()
			for _, m := range l {
				if m.Lag.V < 0 {
					t.Fatalf("%v is below the base", m)
				}
			}
			if mean, is := p.q.Mean(); is && p.q.Base()+l[0].Lag.V > mean {
				t.Fatalf("the first one of %v is above the mean %d; the base is %d", l, mean, p.q.Base())
			}
		}
	}
}

func TestLagsAreKept(t *testing.T) { // P7.5: who leaves, and joins any queue, has its lag there
	for i, of := range kinds() {
		a, b, c := newPair(t), newPair(t), chance(2000+i)
		moved := 0
		for round := range 3000 {
			a.step(&c, of, round/300%2 == 0)
			b.step(&c, of, round/300%2 == 0)
			m, e := a.q.Leave(a.id(&c, of))
			if e != api.OK {
				continue
			}
			a.m.leave(m.Id)
			to := b
			if c.upTo(3) == 0 {
				to = a
			}
			if to.join(m) != api.OK {
				continue
			}
			moved++
			if got, is := to.q.Get(m.Id); got != m || !is {
				t.Fatalf("%v is %v there", m, got)
			}
			if !slices.Contains(to.q.All(), m) {
				t.Fatalf("%v is not among %v", m, to.q.All())
			}
		}
		if moved < 100 {
			t.Errorf("kind %d: %d moved", i, moved)
		}
		a.same()
		b.same()
	}
}

func TestManyMembers(t *testing.T) { // P7.1 to P7.4: a full queue, of which always the first one runs
	p := newPair(t)
	c := chance(3)
	for id := range maxEach {
		must(t, p.join(ahead(maxId-id*17, 1+c.some(maxWeight-1), c.some(tick), 0)))
	}
	for range 300 {
		must(t, p.run(p.q.All()[0].Id, c.upTo(2)))
	}
	p.same()
	for len(p.m.all) > 0 {
		if _, e := p.leave(p.m.all[len(p.m.all)/2].id); e != api.OK {
			t.Fatal(e)
		}
		if len(p.m.all)%500 == 0 {
			p.same()
		}
	}
	p.same()
}

func TestQueuesAreApart(t *testing.T) { // P7.1, R6
	a, b := newPair(t), newPair(t)
	for id := 1; id < 30; id++ {
		must(t, a.join(ahead(id, id, 3*id, 0)), b.join(ahead(id, 30-id, id, 0)), a.run(id, id))
		if id%3 == 0 {
			b.leave(id)
		}
		a.same()
		b.same()
	}
}

func TestAllIsMemoryOfItsOwn(t *testing.T) { // P7.2, R5
	p := newPair(t)
	for id := 1; id < 9; id++ {
		must(t, p.join(ahead(id, 3, 10-id, 1)))
	}
	first := p.q.All()
	kept := slices.Clone(first)
	second := p.q.All()
	for i := range second {
		second[i] = api.Member{}
	}
	_ = append(second[:0], member(1, 1), member(2, 2))
	p.same()
	must(t, p.run(8, 3), p.weigh(7, 9))
	p.leave(6)
	p.same()
	if !slices.Equal(first, kept) {
		t.Errorf("what was told changed from %v to %v", kept, first)
	}
}

func TestAskingChangesNothing(t *testing.T) { // P7.2, P7.4
	p := newPair(t)
	must(t, p.join(ahead(1, 1, 10, 0)), p.join(ahead(2, 5, 20, 4)))
	for range 3 {
		for id := -1; id < 5; id++ {
			p.q.Get(id)
		}
		p.q.All()
		p.q.Mean()
		if p.q.Base() != 0 {
			t.Fatalf("the base is %d", p.q.Base())
		}
		p.same()
	}
}

func TestSameInWhateverOrder(t *testing.T) { // R6: what is told hangs on who is there, not on the order in which they came
	c := chance(4)
	l := make([]api.Member, 0, 60)
	for id := 1; id <= 60; id++ {
		l = append(l, ahead(id, 1+c.upTo(50), c.upTo(9), 0))
	}
	var want []api.Member
	for range 40 {
		q := queue.New()
		for i := range l {
			k := c.upTo(i)
			l[i], l[k] = l[k], l[i]
		}
		for _, m := range l {
			must(t, q.Join(m))
		}
		if want == nil {
			want = q.All()
		}
		if got := q.All(); !slices.Equal(got, want) {
			t.Fatalf("%v, and %v", got, want)
		}
	}
}
