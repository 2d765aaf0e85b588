package kin_test

import (
	"math"
	"slices"
	"testing"

	"diapause/api"
	"diapause/kin"
)

// list fails if a list that was told is another one.
func list(t *testing.T, got []int, want ...int) {
	t.Helper()
	if !slices.Equal(got, want) {
		t.Fatalf("%v, not %v", got, want)
	}
}

// number fails if a number that was told is another one.
func number(t *testing.T, got, want int) {
	t.Helper()
	if got != want {
		t.Errorf("%d, not %d", got, want)
	}
}

// wrongIds are none that a group but 0 may have.
func wrongIds() []int {
	return []int{0, -1, maxId + 1, maxId + 2, 1 << 32, 1<<32 + 1, -1<<32 + 1, math.MinInt, math.MinInt + 1, math.MaxInt}
}

// full is a tree of as many groups as there may be: 1 to 16 one below the other, and 17 to 4096 below 0.
func full(t *testing.T) *kin.Tree {
	t.Helper()
	k := kin.New()
	for id := 1; id <= maxEach; id++ {
		parent := 0
		if id <= maxDeep {
			parent = id - 1
		}
		must(t, k.Add(id, parent))
	}
	return k
}

func TestExamples(t *testing.T) { // P12.1, P12.2, P12.3
	k := kin.New()
	must(t, k.Add(1, 0), k.Add(2, 1), k.Add(3, 1))
	list(t, k.Under(1), 1, 2, 3)
	tell(t, k.Move(1, 3), api.ErrLoop)
	list(t, k.Under(1), 1, 2, 3)
}

func TestNew(t *testing.T) { // P12.1, P12.3
	k := kin.New()
	if !k.Has(0) || k.Has(1) {
		t.Error("it has not the group 0 alone")
	}
	number(t, k.Parent(0), -1)
	number(t, k.Tall(0), 0)
	list(t, k.Kids(0))
	list(t, k.Path(0))
	list(t, k.Under(0), 0)
	newPair(t).same(20)
}

func TestTreesAreApart(t *testing.T) { // P12.1, R6
	a, b := newPair(t), newPair(t)
	for id := 1; id < 20; id++ {
		must(t, a.add(id, id/2), b.add(id, id/3))
		if id > 6 && id%2 == 0 {
			must(t, b.drop(id), a.move(id, 0))
		}
		a.same(20)
		b.same(20)
	}
}

func TestAddOfIdsAtTheEdges(t *testing.T) { // P12.1
	p := newPair(t)
	must(t, p.add(1, 0), p.add(maxId, 0), p.add(maxId-1, maxId), p.add(2, maxId-1))
	for _, id := range wrongIds() {
		tell(t, p.add(id, 0), api.ErrArg)
		tell(t, p.add(id, 1), api.ErrArg)
	}
	p.same(5)
	list(t, p.k.Under(0), 0, 1, maxId, maxId-1, 2)
}

func TestErrorsOfAdd(t *testing.T) { // P12.1, R2, R3: each error ahead of all that come behind it
	p := newPair(t)
	p.chain(1, maxDeep, 0)
	for _, x := range []struct {
		id, parent int
		want       api.Errno
	}{
		{0, 0, api.ErrArg}, {0, 99, api.ErrArg}, {0, 16, api.ErrArg}, {-1, -1, api.ErrArg}, {maxId + 1, 99, api.ErrArg}, {maxId + 1, 16, api.ErrArg}, {math.MinInt, math.MinInt, api.ErrArg},
		{1, 0, api.ErrTwice}, {1, 1, api.ErrTwice}, {1, 99, api.ErrTwice}, {1, 16, api.ErrTwice}, {16, 15, api.ErrTwice}, {16, 16, api.ErrTwice}, {16, -1, api.ErrTwice},
		{17, 17, api.ErrNone}, {17, 99, api.ErrNone}, {17, -1, api.ErrNone}, {17, maxId + 1, api.ErrNone}, {17, 1<<32 + 1, api.ErrNone}, {17, math.MinInt, api.ErrNone}, {17, math.MaxInt, api.ErrNone},
		{17, 16, api.ErrDeep}, {maxId, 16, api.ErrDeep},
	} {
		if e := p.add(x.id, x.parent); e != x.want {
			t.Errorf("Add(%d, %d) = %v, not %v", x.id, x.parent, e, x.want)
		}
		p.same(20)
	}
}

func TestErrorsOfAddToAFullTree(t *testing.T) { // P12.1, R2, R3
	k := full(t)
	all := k.Under(0)
	number(t, len(all), maxEach+1)
	for _, x := range []struct {
		id, parent int
		want       api.Errno
	}{
		{0, 0, api.ErrArg}, {maxId + 1, 16, api.ErrArg}, {-1, 5000, api.ErrArg},
		{1, 0, api.ErrTwice}, {4096, 16, api.ErrTwice}, {4096, 5000, api.ErrTwice},
		{5000, 5000, api.ErrNone}, {5000, 5001, api.ErrNone}, {5000, -1, api.ErrNone},
		{5000, 0, api.ErrFull}, {5000, 15, api.ErrFull}, {5000, 16, api.ErrFull}, {5000, 4096, api.ErrFull}, {maxId, 1, api.ErrFull},
	} {
		if e := k.Add(x.id, x.parent); e != x.want {
			t.Errorf("Add(%d, %d) = %v, not %v", x.id, x.parent, e, x.want)
		}
		list(t, k.Under(0), all...)
		if k.Has(5000) || k.Has(maxId) {
			t.Fatal("it is there")
		}
	}
	// Whoever goes makes room for another one; one that is moved takes none.
	for id := 5000; id < 5020; id++ {
		must(t, k.Move(17, id%2*100), k.Drop(id-1000))
		tell(t, k.Add(id, 16), api.ErrDeep)
		must(t, k.Add(id, 15))
		tell(t, k.Add(id+1, 15), api.ErrFull)
		number(t, len(k.Under(0)), maxEach+1)
	}
	tell(t, k.Copy().Add(5020, 0), api.ErrFull)
}

func TestHowDeep(t *testing.T) { // P12.1, P12.4: sixteen can be, one more can't, on each way down
	for steps := range maxDeep + 1 {
		p := newPair(t)
		p.chain(1, steps, 0)
		p.chain(101, maxDeep-steps, steps)
		p.chain(201, maxDeep-steps, steps)
		for _, first := range []int{101, 201} {
			least := first + maxDeep - steps - 1
			if steps == maxDeep {
				least = steps
			}
			number(t, len(p.k.Path(least)), maxDeep)
			tell(t, p.add(301, least), api.ErrDeep)
		}
		number(t, p.k.Tall(0), maxDeep)
		p.same(300)
	}
}

func TestDrop(t *testing.T) { // P12.1
	p := newPair(t)
	must(t, p.add(1, 0), p.add(2, 1), p.add(3, 1), p.add(4, 3))
	for _, x := range []struct {
		id   int
		want api.Errno
	}{
		{0, api.ErrNone}, {5, api.ErrNone}, {-1, api.ErrNone}, {maxId + 1, api.ErrNone}, {1<<32 + 2, api.ErrNone}, {math.MinInt, api.ErrNone}, {math.MaxInt, api.ErrNone},
		{1, api.ErrBusy}, {3, api.ErrBusy}, {2, api.OK}, {2, api.ErrNone}, {1, api.ErrBusy}, {4, api.OK}, {3, api.OK}, {1, api.OK}, {1, api.ErrNone}, {0, api.ErrNone},
	} {
		if e := p.drop(x.id); e != x.want {
			t.Errorf("Drop(%d) = %v, not %v", x.id, e, x.want)
		}
		p.same(9)
	}
	list(t, p.k.Under(0), 0)
}

func TestDropAndAddAgain(t *testing.T) { // P12.1: nothing of what it was is left
	p := newPair(t)
	must(t, p.add(1, 0), p.add(2, 0), p.add(3, 1), p.add(4, 3))
	must(t, p.drop(4), p.drop(3), p.add(3, 2))
	p.same(9)
	list(t, p.k.Kids(3))
	list(t, p.k.Kids(1))
	list(t, p.k.Path(3), 3, 2)
	must(t, p.drop(1), p.add(1, 3))
	p.same(9)
	list(t, p.k.Under(0), 0, 2, 3, 1)
}

func TestErrorsOfMove(t *testing.T) { // P12.2, R2, R3: each error ahead of all that come behind it
	p := newPair(t)
	p.chain(1, maxDeep, 0)
	p.chain(21, 4, 0)
	for _, x := range []struct {
		id, parent int
		want       api.Errno
	}{
		{0, 0, api.ErrNone}, {0, 1, api.ErrNone}, {0, 16, api.ErrNone}, {0, 99, api.ErrNone}, {99, 99, api.ErrNone}, {99, 0, api.ErrNone}, {99, 16, api.ErrNone}, {1, 99, api.ErrNone}, {98, 99, api.ErrNone},
		{-1, -1, api.ErrNone}, {-1, 0, api.ErrNone}, {1, -1, api.ErrNone}, {16, -1, api.ErrNone}, {1<<32 + 1, 0, api.ErrNone}, {1, 1<<32 + 21, api.ErrNone}, {1, maxId + 1, api.ErrNone},
		{math.MinInt, 0, api.ErrNone}, {math.MaxInt, 0, api.ErrNone}, {1, math.MinInt, api.ErrNone}, {1, math.MaxInt, api.ErrNone},
		{1, 1, api.ErrLoop}, {1, 2, api.ErrLoop}, {1, 16, api.ErrLoop}, {2, 16, api.ErrLoop}, {15, 16, api.ErrLoop}, {16, 16, api.ErrLoop}, {21, 21, api.ErrLoop}, {21, 24, api.ErrLoop}, {24, 24, api.ErrLoop}, {23, 24, api.ErrLoop},
		{1, 21, api.ErrDeep}, {2, 22, api.ErrDeep}, {21, 13, api.ErrDeep}, {21, 16, api.ErrDeep}, {24, 16, api.ErrDeep}, {22, 14, api.ErrDeep},
		{1, 0, api.OK}, {16, 15, api.OK}, {24, 23, api.OK}, {21, 12, api.OK}, {21, 0, api.OK}, {22, 13, api.OK}, {22, 21, api.OK}, {24, 15, api.OK}, {24, 23, api.OK},
	} {
		if e := p.move(x.id, x.parent); e != x.want {
			t.Errorf("Move(%d, %d) = %v, not %v", x.id, x.parent, e, x.want)
		}
		p.same(30)
	}
}

func TestHowDeepMoveMayGo(t *testing.T) { // P12.2, P12.4: by the tallest way down of what is moved, wherever that is
	for tall := range maxDeep {
		for deep := range maxDeep + 1 {
			for at := range 3 {
				p := newPair(t)
				p.chain(1, deep, 0)
				must(t, p.add(100, 0))
				for way := range 3 {
					steps := tall / 2
					if way == at {
						steps = tall
					}
					p.chain(200+100*way, steps, 100)
				}
				number(t, p.k.Tall(100), tall)
				want := api.OK
				if deep+1+tall > maxDeep {
					want = api.ErrDeep
				}
				if e := p.move(100, deep); e != want {
					t.Errorf("one of %d steps, below one that is %d deep: %v, not %v", tall, deep, e, want)
				}
				p.same(20)
			}
		}
	}
}

func TestMoveTakesAllBelowAlong(t *testing.T) { // P12.2, P12.3
	p := newPair(t)
	must(t, p.add(10, 0), p.add(20, 0), p.add(5, 10), p.add(7, 5), p.add(6, 5), p.add(8, 6), p.add(30, 20))
	must(t, p.move(5, 30))
	list(t, p.k.Under(0), 0, 10, 20, 30, 5, 6, 8, 7)
	list(t, p.k.Path(8), 8, 6, 5, 30, 20)
	list(t, p.k.Kids(10))
	list(t, p.k.Under(5), 5, 6, 8, 7)
	p.same(40)
	// A subtree comes where its parent was, and a parent below what was below it.
	must(t, p.move(30, 0), p.move(20, 8))
	list(t, p.k.Under(0), 0, 10, 30, 5, 6, 8, 20, 7)
	p.same(40)
}

func TestMoveToItsOwnParent(t *testing.T) { // P12.2
	p := newPair(t)
	p.chain(1, maxDeep, 0)
	must(t, p.add(50, 3), p.add(51, 3), p.add(52, 0))
	was := p.copy()
	for id := 1; id <= maxDeep; id++ {
		must(t, p.move(id, id-1))
		p.same(60)
	}
	must(t, p.move(50, 3), p.move(51, 3), p.move(52, 0))
	p.same(60)
	list(t, p.k.Under(0), was.k.Under(0)...)
}

func TestMovedAwayAndBack(t *testing.T) { // P12.4
	c := chance(5)
	for range 60 {
		p := newPair(t)
		many := 2 + c.upTo(28)
		for id := 1; id <= many; id++ {
			p.add(id, c.upTo(id-1))
		}
		was := p.copy()
		for id := 1; id <= many; id++ {
			for parent := range many + 1 {
				old := p.k.Parent(id)
				if p.move(id, parent) != api.OK {
					continue
				}
				must(t, p.move(id, old))
				list(t, p.k.Under(0), was.k.Under(0)...)
			}
		}
		p.m = was.m
		p.same(many)
	}
}

func TestHasAndParent(t *testing.T) { // P12.3
	k := kin.New()
	must(t, k.Add(1, 0), k.Add(maxId, 1), k.Add(7, maxId))
	for _, x := range []struct{ id, parent int }{{1, 0}, {maxId, 1}, {7, maxId}} {
		number(t, k.Parent(x.id), x.parent)
		if !k.Has(x.id) {
			t.Errorf("%d isn't there", x.id)
		}
	}
	if !k.Has(0) || k.Parent(0) != -1 {
		t.Errorf("the parent of 0 is %d", k.Parent(0))
	}
	for _, id := range append(wrongIds()[1:], 2, 6, 8, maxId-1) {
		if k.Has(id) || k.Parent(id) != -1 {
			t.Errorf("%d is there, or its parent is %d", id, k.Parent(id))
		}
	}
}

func TestWhatIsToldOfNone(t *testing.T) { // P12.3, R1
	p := newPair(t)
	must(t, p.add(1, 0), p.add(2, 1))
	for range 2 {
		for _, id := range append(wrongIds()[1:], 3, maxId) {
			number(t, p.k.Parent(id), -1)
			number(t, p.k.Tall(id), -1)
			list(t, p.k.Kids(id))
			list(t, p.k.Path(id))
			list(t, p.k.Under(id))
		}
		p.same(5) // asking let none of them be there
		must(t, p.add(3, 2), p.drop(3))
	}
}

func TestKidsRise(t *testing.T) { // P12.3: whatever was done before
	c := chance(6)
	ids := []int{1, 2, 3, 9, 10, 11, 100, 101, 1000, maxId - 1, maxId}
	for range 50 {
		p := newPair(t)
		must(t, p.add(500, 0), p.add(600, 0))
		for _, id := range c.shuffled(ids) {
			must(t, p.add(id, 500))
		}
		list(t, p.k.Kids(500), ids...)
		for _, id := range c.shuffled(ids) {
			must(t, p.move(id, 600))
		}
		list(t, p.k.Kids(600), ids...)
		list(t, p.k.Kids(500))
		left := slices.Clone(ids)
		for _, id := range c.shuffled(ids) {
			must(t, p.drop(id))
			left = slices.DeleteFunc(left, func(x int) bool { return x == id })
			list(t, p.k.Kids(600), left...)
		}
		list(t, p.k.Kids(0), 500, 600)
	}
}

func TestUnderGoesDownBeforeItGoesOn(t *testing.T) { // P12.3: so it doesn't rise, nor go by how deep one is
	k := kin.New()
	must(t, k.Add(9, 0), k.Add(3, 0), k.Add(8, 3), k.Add(4, 3), k.Add(2, 8), k.Add(1, 9), k.Add(7, 4), k.Add(5, 7))
	list(t, k.Under(0), 0, 3, 4, 7, 5, 8, 2, 9, 1)
	list(t, k.Under(3), 3, 4, 7, 5, 8, 2)
	list(t, k.Under(4), 4, 7, 5)
	list(t, k.Under(9), 9, 1)
	list(t, k.Under(1), 1)
	list(t, k.Kids(3), 4, 8)
}

func TestPath(t *testing.T) { // P12.3
	k := kin.New()
	must(t, k.Add(9, 0), k.Add(3, 9), k.Add(8, 3), k.Add(4, 0))
	list(t, k.Path(8), 8, 3, 9)
	list(t, k.Path(3), 3, 9)
	list(t, k.Path(9), 9)
	list(t, k.Path(4), 4)
	list(t, k.Path(0))
	must(t, k.Move(3, 4))
	list(t, k.Path(8), 8, 3, 4)
}

func TestTall(t *testing.T) { // P12.3: the tallest way down counts, be it the first, the last or one between
	for at := range 5 {
		p := newPair(t)
		must(t, p.add(1, 0))
		for way := range 5 {
			steps := 1 + way%2
			if way == at {
				steps = 7
			}
			p.chain(100*(way+1), steps, 1)
		}
		number(t, p.k.Tall(1), 7)
		number(t, p.k.Tall(0), 8)
		number(t, p.k.Tall(100*(at+1)), 6)
		number(t, p.k.Tall(100*(at+1)+6), 0)
		must(t, p.drop(100*(at+1)+6))
		number(t, p.k.Tall(1), 6)
		p.same(5)
	}
}
