package queue_test

import (
	"cmp"
	"math"
	"math/big"
	"slices"
	"testing"

	"diapause/api"
	"diapause/queue"
)

const (
	maxId     = 1 << 20
	maxWeight = 1 << 20
	maxTicks  = 1 << 40
	maxEach   = 4096
	maxFar    = 1 << 61
	tick      = 1 << 20
	maxApart  = 1 << 20
)

// chance is numbers without a pattern, the same ones each time.
type chance uint64

func (c *chance) next() uint64 {
	*c = *c*6364136223846793005 + 1442695040888963407
	return uint64(*c) ^ uint64(*c)>>29
}

// upTo is a number from 0 to most, all of them as frequent.
func (c *chance) upTo(most int) int {
	return int((c.next() >> 2) % uint64(most+1))
}

// some is a number from 0 to most; small ones are as frequent as great ones.
func (c *chance) some(most int) int {
	return int(c.next()>>(c.next()%64)>>1) % (most + 1)
}

// one is a member, as far as it is.
type one struct{ id, weight, v, rem int }

// model is a queue in the chapter's words: a list in no order.
type model struct {
	base int
	all  []one
}

func (m *model) find(id int) int {
	return slices.IndexFunc(m.all, func(x one) bool { return x.id == id })
}

func (m *model) member(x one) api.Member {
	return api.Member{Id: x.id, Weight: x.weight, Lag: api.Pace{V: x.v - m.base, Rem: x.rem}}
}

func (m *model) join(x api.Member) api.Errno {
	switch {
	case x.Id < 1 || x.Id > maxId || x.Weight < 1 || x.Weight > maxWeight:
		return api.ErrArg
	case x.Lag.V < 0 || x.Lag.V > maxFar || x.Lag.Rem < 0 || x.Lag.Rem >= x.Weight:
		return api.ErrArg
	case m.find(x.Id) >= 0:
		return api.ErrTwice
	case len(m.all) >= maxEach:
		return api.ErrFull
	case x.Lag.V > maxFar-m.base:
		return api.ErrRange
	}
	m.all = append(m.all, one{x.Id, x.Weight, m.base + x.Lag.V, x.Lag.Rem})
	return api.OK
}

func (m *model) leave(id int) (api.Member, api.Errno) {
	at := m.find(id)
	if at < 0 {
		return api.Member{}, api.ErrNone
	}
	x := m.member(m.all[at])
	m.all = slices.Delete(m.all, at, at+1)
	return x, api.OK
}

func (m *model) run(id, ticks int) api.Errno {
	at := m.find(id)
	switch {
	case at < 0:
		return api.ErrNone
	case ticks < 0 || ticks > maxTicks:
		return api.ErrArg
	}
	x := m.all[at]
	gone := tick*ticks + x.rem
	x.v, x.rem = x.v+gone/x.weight, gone%x.weight
	if x.v > maxFar {
		return api.ErrRange
	}
	m.all[at] = x
	least := m.all[0].v
	for _, y := range m.all {
		least = min(least, y.v)
	}
	if least > m.base {
		m.base = least
	}
	return api.OK
}

func (m *model) weigh(id, weight int) api.Errno {
	at := m.find(id)
	switch {
	case at < 0:
		return api.ErrNone
	case weight < 1 || weight > maxWeight:
		return api.ErrArg
	}
	x := &m.all[at]
	x.rem, x.weight = x.rem*weight/x.weight, weight
	return api.OK
}

// told are all members, in order, with their lags.
func (m *model) told() []api.Member {
	l := slices.Clone(m.all)
	slices.SortFunc(l, func(a, b one) int { return cmp.Or(cmp.Compare(a.v, b.v), cmp.Compare(a.id, b.id)) })
	var out []api.Member
	for _, x := range l {
		out = append(out, m.member(x))
	}
	return out
}

// mean is reckoned without bound, and not from the base on.
func (m *model) mean() (int, bool) {
	far, weight := new(big.Int), new(big.Int)
	for _, x := range m.all {
		if x.v-m.base > maxApart {
			return 0, false
		}
		far.Add(far, new(big.Int).Mul(big.NewInt(int64(x.v)), big.NewInt(int64(x.weight))))
		weight.Add(weight, big.NewInt(int64(x.weight)))
	}
	if len(m.all) == 0 || weight.Cmp(big.NewInt(1<<32)) > 0 {
		return 0, false
	}
	return int(far.Div(far, weight).Int64()), true
}

// pair is a queue, and a model with which the same is done: each call fails where they answer differently.
type pair struct {
	t *testing.T
	q *queue.Queue
	m *model
}

func newPair(t *testing.T) pair {
	return pair{t, queue.New(), &model{}}
}

func (p pair) join(x api.Member) api.Errno {
	p.t.Helper()
	want := p.m.join(x)
	if got := p.q.Join(x); got != want {
		p.t.Fatalf("Join(%v) = %v, not %v", x, got, want)
	}
	p.near(x.Id)
	return want
}

func (p pair) leave(id int) (api.Member, api.Errno) {
	p.t.Helper()
	want, e := p.m.leave(id)
	if got, f := p.q.Leave(id); got != want || f != e {
		p.t.Fatalf("Leave(%d) = %v, %v, not %v, %v", id, got, f, want, e)
	}
	p.near(id)
	return want, e
}

func (p pair) run(id, ticks int) api.Errno {
	p.t.Helper()
	want := p.m.run(id, ticks)
	if got := p.q.Run(id, ticks); got != want {
		p.t.Fatalf("Run(%d, %d) = %v, not %v", id, ticks, got, want)
	}
	p.near(id)
	return want
}

func (p pair) weigh(id, weight int) api.Errno {
	p.t.Helper()
	want := p.m.weigh(id, weight)
	if got := p.q.Weigh(id, weight); got != want {
		p.t.Fatalf("Weigh(%d, %d) = %v, not %v", id, weight, got, want)
	}
	p.near(id)
	return want
}

// near fails if what is told of one Id, and of the base, is not what the model has.
func (p pair) near(id int) {
	p.t.Helper()
	if got := p.q.Base(); got != p.m.base {
		p.t.Fatalf("the base is %d, not %d", got, p.m.base)
	}
	want, is := api.Member{}, false
	if at := p.m.find(id); at >= 0 {
		want, is = p.m.member(p.m.all[at]), true
	}
	if got, ok := p.q.Get(id); got != want || ok != is {
		p.t.Fatalf("Get(%d) = %v, %v, not %v, %v", id, got, ok, want, is)
	}
}

// same fails if anything that can be told is not what the model has.
func (p pair) same() {
	p.t.Helper()
	want := p.m.told()
	if got := p.q.All(); !slices.Equal(got, want) {
		p.t.Fatalf("All() = %v, not %v", got, want)
	}
	for _, x := range want {
		p.near(x.Id)
	}
	for _, id := range []int{0, -1, 1, maxId, maxId + 1, math.MaxInt, math.MinInt} {
		p.near(id)
	}
	mean, is := p.m.mean()
	if got, ok := p.q.Mean(); got != mean || ok != is {
		p.t.Fatalf("Mean() = %d, %v, not %d, %v", got, ok, mean, is)
	}
}

// member is one without a lag.
func member(id, weight int) api.Member {
	return api.Member{Id: id, Weight: weight}
}

// ahead is one with a lag.
func ahead(id, weight, v, rem int) api.Member {
	return api.Member{Id: id, Weight: weight, Lag: api.Pace{V: v, Rem: rem}}
}

// must fails at an error.
func must(t *testing.T, l ...api.Errno) {
	t.Helper()
	for i, e := range l {
		if e != api.OK {
			t.Fatalf("call %d: %v", i, e)
		}
	}
}
