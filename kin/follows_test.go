package kin_test

import (
	"slices"
	"testing"

	"diapause/api"
	"diapause/kin"
)

// kind is what trees are tried: of how many groups, and of the new ones how many in a hundred come below one of those that were added last.
type kind struct{ ids, deep int }

func kinds() []kind {
	return []kind{{1, 0}, {2, 50}, {5, 50}, {12, 0}, {20, 95}, {40, 50}, {40, 95}, {70, 80}, {70, 20}}
}

// wrong is a number that no group has, now and then.
func wrong(c *chance, n int) int {
	if c.upTo(40) > 0 {
		return n
	}
	l := append(strange(), 0, -n, n+1<<32)
	return l[c.upTo(len(l)-1)]
}

// parent is one of the least deep ones, or one that is far down.
func (p pair) parent(c *chance, of kind) int {
	if c.upTo(99) >= of.deep {
		return c.upTo(of.ids)
	}
	at, down := 0, c.upTo(3*maxDeep)
	for l := p.m.kids(at); len(l) > 0 && down > 0; l = p.m.kids(at) {
		at = l[c.upTo(len(l)-1)]
		down--
	}
	return at
}

// step does anything, and tells an error's number.
func (p pair) step(c *chance, of kind, grow bool) api.Errno {
	p.t.Helper()
	id, parent := wrong(c, 1+c.upTo(of.ids-1)), wrong(c, p.parent(c, of))
	what := c.upTo(9)
	switch {
	case what < 4:
		return p.move(id, parent)
	case grow && what < 9 || what < 5:
		return p.add(id, parent)
	}
	return p.drop(id)
}

func TestWhateverIsDone(t *testing.T) { // P12.1, P12.2, P12.3, P12.4
	seen := map[api.Errno]int{}
	for i, of := range kinds() {
		p, c := newPair(t), chance(i)
		for round := range 4000 {
			seen[p.step(&c, of, round/200%2 == 0)]++
			if round%10 == 0 {
				p.same(of.ids)
			}
			p.follows()
		}
		p.same(of.ids)
	}
	for _, e := range []api.Errno{api.OK, api.ErrArg, api.ErrTwice, api.ErrNone, api.ErrBusy, api.ErrLoop, api.ErrDeep} {
		if seen[e] < 100 {
			t.Errorf("%v was told %d times", e, seen[e])
		}
	}
}

// follows fails if a group is below itself, too deep, or not found where its parent is.
func (p pair) follows() {
	p.t.Helper()
	all := p.k.Under(0)
	if len(all) != len(p.m)+1 || all[0] != 0 {
		p.t.Fatalf("%v are not all of %d", all, len(p.m)+1)
	}
	for i, id := range all[1:] {
		path := p.k.Path(id)
		if len(path) > maxDeep || slices.Contains(path[1:], id) {
			p.t.Fatalf("the path of %d is %v", id, path)
		}
		// Who stands ahead of it is its parent, or below that one.
		parent := p.k.Parent(id)
		if ahead := all[i]; ahead != parent && !slices.Contains(p.k.Path(ahead), parent) && parent != 0 {
			p.t.Fatalf("%d stands behind %d, in %v", id, ahead, all)
		}
	}
}

func TestCopyGoesOnByItself(t *testing.T) { // P12.3: whatever is done with the one the other one doesn't see
	for i, of := range kinds() {
		p, c := newPair(t), chance(100+i)
		l := []pair{p}
		for round := range 1500 {
			at := c.upTo(len(l) - 1)
			l[at].step(&c, of, round/100%2 == 0)
			if round%50 == 0 {
				copied := l[at].copy()
				copied.same(of.ids)
				if len(l) < 6 {
					l = append(l, copied)
				} else {
					l[c.upTo(5)] = copied
				}
			}
			if round%10 == 0 {
				for _, x := range l {
					x.same(of.ids)
				}
			}
		}
	}
}

func TestCopyOfNone(t *testing.T) { // P12.3: of the group 0 alone
	p := newPair(t)
	c := p.copy()
	must(t, c.add(1, 0), c.add(2, 1))
	d := c.copy()
	must(t, d.move(2, 0), d.drop(1), p.add(2, 0))
	for _, x := range []pair{p, c, d} {
		x.same(5)
	}
}

func TestCopiesShareNoList(t *testing.T) { // P12.3: a list of kids has room for more, or is cut, in one of them alone
	for many := range 20 {
		p := newPair(t)
		must(t, p.add(1, 0))
		for id := range many {
			must(t, p.add(10*(id+1), 1))
		}
		a, b := p.copy(), p.copy()
		must(t, a.add(5, 1), b.add(500, 1), p.add(6, 1), a.add(501, 1), b.add(7, 1))
		if many > 0 {
			must(t, a.drop(10), b.move(10*many, 0))
		}
		for _, x := range []pair{p, a, b, a.copy(), b.copy()} {
			x.same(8)
		}
	}
}

func TestAnswersAreMemoryOfTheirOwn(t *testing.T) { // P12.3, R5
	p := newPair(t)
	must(t, p.add(1, 0), p.add(2, 1), p.add(3, 1), p.add(4, 1), p.add(5, 2), p.add(6, 2), p.add(7, 5))
	lists := func() [][]int {
		var l [][]int
		for id := range 9 {
			l = append(l, p.k.Kids(id), p.k.Path(id), p.k.Under(id))
		}
		return l
	}
	first, kept := lists(), lists()
	for _, l := range lists() {
		for i := range l {
			l[i] = -7
		}
		_ = append(l, 77, 78)
		_ = append(l[:0], 79)
	}
	p.same(9)
	must(t, p.move(2, 4), p.add(8, 1), p.drop(3), p.drop(7), p.move(6, 0))
	p.same(9)
	for i := range first {
		if !slices.Equal(first[i], kept[i]) {
			t.Errorf("what was told changed from %v to %v", kept[i], first[i])
		}
	}
}

func TestSameInWhateverOrder(t *testing.T) { // R6: what is told hangs on which groups there are, not on the way there
	c := chance(9)
	parents := make([]int, 61)
	for id := 1; id <= 60; id++ {
		parents[id] = c.upTo(id - 1)
	}
	var want []int
	for range 60 {
		k := kin.New()
		var ids []int
		for id := 1; id <= 60; id++ {
			ids = append(ids, id)
		}
		for _, id := range c.shuffled(ids) {
			must(t, k.Add(id, 0))
		}
		for _, id := range c.shuffled(ids) {
			must(t, k.Move(id, parents[id]))
		}
		if want == nil {
			want = k.Under(0)
		}
		list(t, k.Under(0), want...)
		list(t, k.Copy().Under(0), want...)
	}
}

func TestFullTrees(t *testing.T) { // P12.1 to P12.4: as many as there may be, all below 0, in chains, and in twos
	for _, parent := range []func(id int) int{
		func(id int) int { return 0 },
		func(id int) int {
			if id%maxDeep == 1 {
				return 0
			}
			return id - 1
		},
		func(id int) int { return id / 2 },
		func(id int) int { return id / 64 },
	} {
		k, deep := kin.New(), make([]int, maxEach+1)
		m, kids := model{}, make([][]int, maxEach+1)
		for id := 1; id <= maxEach; id++ {
			up := parent(id)
			must(t, k.Add(id, up))
			m[id], deep[id] = up, deep[up]+1
			kids[up] = append(kids[up], id)
		}
		var want []int
		var down func(id int)
		down = func(id int) {
			want = append(want, id)
			for _, x := range kids[id] {
				down(x)
			}
		}
		down(0)
		list(t, k.Under(0), want...)
		number(t, k.Tall(0), slices.Max(deep))
		copied := k.Copy()
		for id := range maxEach + 1 {
			list(t, k.Kids(id), kids[id]...)
			list(t, k.Path(id), m.path(id)...)
		}
		for id := maxEach; id >= 1; id-- {
			must(t, k.Drop(id))
			tell(t, k.Drop(id), api.ErrNone)
		}
		list(t, k.Under(0), 0)
		list(t, copied.Under(0), want...)
	}
}
