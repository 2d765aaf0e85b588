package kin_test

import (
	"maps"
	"math"
	"slices"
	"testing"

	"diapause/api"
	"diapause/kin"
)

const (
	maxId   = 1 << 20
	maxEach = 4096
	maxDeep = 16
)

// chance is numbers without a pattern, the same ones each time.
type chance uint64

func (c *chance) next() uint64 {
	*c = *c*6364136223846793005 + 1442695040888963407
	return uint64(*c) ^ uint64(*c)>>29
}

// upTo is a number from 0 to most, all of them as frequent.
func (c *chance) upTo(most int) int {
	return int((c.next() >> 8) % uint64(most+1))
}

// shuffled is a list's numbers in no order.
func (c *chance) shuffled(l []int) []int {
	l = slices.Clone(l)
	for i := range l {
		k := c.upTo(i)
		l[i], l[k] = l[k], l[i]
	}
	return l
}

// model is a tree in the chapter's words: each group's parent, but that of the group 0. Of nothing else there is a list.
type model map[int]int

func (m model) has(id int) bool {
	_, is := m[id]
	return id == 0 || is
}

// deep is how many steps a group is from 0 on; -1, if there is no end of them.
func (m model) deep(id int) int {
	for steps := range len(m) + 1 {
		if id == 0 {
			return steps
		}
		id = m[id]
	}
	return -1
}

func (m model) path(id int) []int {
	var l []int
	for m.has(id) && id != 0 {
		l = append(l, id)
		id = m[id]
	}
	return l
}

func (m model) kids(id int) []int {
	var l []int
	for x, parent := range m {
		if parent == id {
			l = append(l, x)
		}
	}
	slices.Sort(l)
	return l
}

func (m model) under(id int) []int {
	if !m.has(id) {
		return nil
	}
	l := []int{id}
	for _, x := range m.kids(id) {
		l = append(l, m.under(x)...)
	}
	return l
}

func (m model) tall(id int) int {
	tall := -1
	for _, x := range m.under(id) {
		tall = max(tall, m.deep(x)-m.deep(id))
	}
	return tall
}

func (m model) add(id, parent int) api.Errno {
	switch {
	case id < 1 || id > maxId:
		return api.ErrArg
	case m.has(id):
		return api.ErrTwice
	case !m.has(parent):
		return api.ErrNone
	case len(m) >= maxEach:
		return api.ErrFull
	case m.deep(parent) >= maxDeep:
		return api.ErrDeep
	}
	m[id] = parent
	return api.OK
}

func (m model) drop(id int) api.Errno {
	switch {
	case id == 0 || !m.has(id):
		return api.ErrNone
	case len(m.kids(id)) > 0:
		return api.ErrBusy
	}
	delete(m, id)
	return api.OK
}

// move is done, and taken back where it had made what can't be.
func (m model) move(id, parent int) api.Errno {
	if id == 0 || !m.has(id) || !m.has(parent) {
		return api.ErrNone
	}
	old := m[id]
	m[id] = parent
	for x := range m {
		if m.deep(x) < 0 {
			m[id] = old
			return api.ErrLoop
		}
	}
	for x := range m {
		if m.deep(x) > maxDeep {
			m[id] = old
			return api.ErrDeep
		}
	}
	return api.OK
}

// pair is a tree, and a model with which the same is done: each call fails where they answer differently.
type pair struct {
	t *testing.T
	k *kin.Tree
	m model
}

func newPair(t *testing.T) pair { return pair{t, kin.New(), model{}} }

func (p pair) add(id, parent int) api.Errno {
	p.t.Helper()
	want := p.m.add(id, parent)
	if got := p.k.Add(id, parent); got != want {
		p.t.Fatalf("Add(%d, %d) = %v, not %v", id, parent, got, want)
	}
	p.near(id)
	p.near(parent)
	return want
}

func (p pair) drop(id int) api.Errno {
	p.t.Helper()
	parent := p.m[id]
	want := p.m.drop(id)
	if got := p.k.Drop(id); got != want {
		p.t.Fatalf("Drop(%d) = %v, not %v", id, got, want)
	}
	p.near(id)
	p.near(parent)
	return want
}

func (p pair) move(id, parent int) api.Errno {
	p.t.Helper()
	old := p.m[id]
	want := p.m.move(id, parent)
	if got := p.k.Move(id, parent); got != want {
		p.t.Fatalf("Move(%d, %d) = %v, not %v", id, parent, got, want)
	}
	p.near(id)
	p.near(old)
	p.near(parent)
	return want
}

// copy is a copy of both.
func (p pair) copy() pair { return pair{p.t, p.k.Copy(), maps.Clone(p.m)} }

// near fails if what is told of one Id is not what the model has.
func (p pair) near(id int) {
	p.t.Helper()
	parent := -1
	if p.m.has(id) && id != 0 {
		parent = p.m[id]
	}
	if got := p.k.Parent(id); got != parent {
		p.t.Fatalf("Parent(%d) = %d, not %d", id, got, parent)
	}
	if got, want := p.k.Has(id), p.m.has(id); got != want {
		p.t.Fatalf("Has(%d) = %v", id, got)
	}
	if got, want := p.k.Kids(id), p.m.kids(id); !slices.Equal(got, want) {
		p.t.Fatalf("Kids(%d) = %v, not %v", id, got, want)
	}
	if got, want := p.k.Path(id), p.m.path(id); !slices.Equal(got, want) {
		p.t.Fatalf("Path(%d) = %v, not %v", id, got, want)
	}
}

// strange are some numbers that groups have seldom, or never.
func strange() []int {
	return []int{-1, -2, -maxId, maxId, maxId + 1, 1 << 32, 1<<32 + 1, -1 << 32, math.MinInt, math.MinInt + 1, math.MaxInt, math.MaxInt - 1}
}

// same fails if anything that can be told, of groups up to this one and of all that there are, is not what the model has.
func (p pair) same(upTo int) {
	p.t.Helper()
	ids := append(slices.Collect(maps.Keys(p.m)), strange()...)
	for id := range upTo + 1 {
		ids = append(ids, id)
	}
	for _, id := range ids {
		p.near(id)
		if got, want := p.k.Under(id), p.m.under(id); !slices.Equal(got, want) {
			p.t.Fatalf("Under(%d) = %v, not %v", id, got, want)
		}
		if got, want := p.k.Tall(id), p.m.tall(id); got != want {
			p.t.Fatalf("Tall(%d) = %d, not %d", id, got, want)
		}
	}
}

// chain adds one below the other, from the first one on, which is below parent.
func (p pair) chain(first, many, parent int) {
	p.t.Helper()
	for id := first; id < first+many; id++ {
		must(p.t, p.add(id, parent))
		parent = id
	}
}

// must fails at an error.
func must(t *testing.T, l ...api.Errno) {
	t.Helper()
	for i, e := range l {
		if e != api.OK {
			t.Fatalf("call %d: %v", i, e)
		}
	}
}

// tell fails if a call told another error.
func tell(t *testing.T, got, want api.Errno) {
	t.Helper()
	if got != want {
		t.Errorf("%v, not %v", got, want)
	}
}
