package shelf_test

import (
	"cmp"
	"math"
	"math/bits"
	"slices"
	"testing"

	"diapause/api"
	"diapause/shelf"
)

// chance is numbers without a pattern, the same ones each time.
type chance uint64

func (c *chance) upTo(most int) int {
	*c = *c*6364136223846793005 + 1442695040888963407
	return int((uint64(*c)>>32 ^ uint64(*c)>>11) % uint64(most+1))
}

func shuffled(c *chance, l []api.Item) []api.Item {
	l = slices.Clone(l)
	for i := range l {
		k := c.upTo(i)
		l[i], l[k] = l[k], l[i]
	}
	return l
}

// order is that of items, in the chapter's words: by Key, of the same one by Id.
func order(a, b api.Item) int {
	return cmp.Or(cmp.Compare(a.Key, b.Key), cmp.Compare(a.Id, b.Id))
}

// model is what a shelf has, as a list in order.
type model []api.Item

func (m *model) put(x api.Item) bool {
	at, is := slices.BinarySearchFunc(*m, x, order)
	if !is {
		*m = slices.Insert(*m, at, x)
	}
	return !is
}

func (m *model) drop(x api.Item) bool {
	at, is := slices.BinarySearchFunc(*m, x, order)
	if is {
		*m = slices.Delete(*m, at, at+1)
	}
	return is
}

// told are all items as the iterator tells them: it fails if the ranks are not from 0 on.
func told(t *testing.T, s *shelf.Shelf) []api.Item {
	t.Helper()
	var l []api.Item
	for rank, x := range s.All() {
		if rank != len(l) {
			t.Fatalf("All tells %v with the rank %d, as the one with %d ahead", x, rank, len(l))
		}
		l = append(l, x)
	}
	return l
}

// bounds fails if a shelf is deeper than is promised, or less deep than two below each can make it.
func bounds(t *testing.T, s *shelf.Shelf, many int) {
	t.Helper()
	if deep, digits := s.Deep(), bits.Len(uint(many)); deep > 2*digits || deep < digits {
		t.Fatalf("with %d items Deep is %d", many, deep)
	}
}

// same fails if a shelf tells anything else than a model has.
func same(t *testing.T, s *shelf.Shelf, m model) {
	t.Helper()
	if s.Len() != len(m) {
		t.Fatalf("Len is %d, not %d", s.Len(), len(m))
	}
	if l := told(t, s); !slices.Equal(l, m) {
		t.Fatalf("All tells %v, not %v", l, m)
	}
	for rank, x := range m {
		if y, is := s.At(rank); y != x || !is {
			t.Fatalf("At(%d) = %v, %v, not %v", rank, y, is, x)
		}
		if got := s.Rank(x); got != rank || !s.Has(x) {
			t.Fatalf("Rank(%v) = %d, not %d; Has tells %v", x, got, rank, s.Has(x))
		}
	}
	outside(t, s, len(m))
	bounds(t, s, len(m))
}

// outside fails if there is an item at a rank that none has.
func outside(t *testing.T, s *shelf.Shelf, many int) {
	t.Helper()
	for _, rank := range []int{many, many + 1, 2*many + 1, 1 << 32, math.MaxInt - 1, math.MaxInt, -1, -2, -many, -many - 1, -1 << 32, math.MinInt + 1, math.MinInt} {
		if rank < 0 || rank >= many {
			if x, is := s.At(rank); x != (api.Item{}) || is {
				t.Fatalf("At(%d) of %d = %v, %v", rank, many, x, is)
			}
		}
	}
}

// absent fails if an item that is not there is told as one, has another rank than those of the model tell, or can be dropped.
func absent(t *testing.T, s *shelf.Shelf, m model, x api.Item) {
	t.Helper()
	rank, is := slices.BinarySearchFunc(m, x, order)
	if is {
		return
	}
	if s.Has(x) || s.Rank(x) != rank || s.Drop(x) {
		t.Fatalf("%v, which is not there: Has %v, Rank %d, not %d", x, s.Has(x), s.Rank(x), rank)
	}
}

// put puts an item into both, and fails if they tell differently whether it is new.
func put(t *testing.T, s *shelf.Shelf, m *model, x api.Item) {
	t.Helper()
	want := m.put(x)
	if got := s.Put(x); got != want || s.Len() != len(*m) || !s.Has(x) {
		t.Fatalf("Put(%v) = %v, not %v; Len %d, not %d", x, got, want, s.Len(), len(*m))
	}
}

func drop(t *testing.T, s *shelf.Shelf, m *model, x api.Item) {
	t.Helper()
	want := m.drop(x)
	if got := s.Drop(x); got != want || s.Len() != len(*m) || s.Has(x) {
		t.Fatalf("Drop(%v) = %v, not %v; Len %d, not %d", x, got, want, s.Len(), len(*m))
	}
}

func TestExamples(t *testing.T) { // P6.1, P6.2
	s := shelf.New()
	for _, x := range []api.Item{{Key: 2, Id: 7}, {Key: 1, Id: 9}, {Key: 2, Id: 3}} {
		if !s.Put(x) {
			t.Errorf("Put(%v) tells that it was there", x)
		}
	}
	same(t, s, model{{Key: 1, Id: 9}, {Key: 2, Id: 3}, {Key: 2, Id: 7}})
	if got := s.Rank(api.Item{Key: 2, Id: 4}); got != 2 {
		t.Errorf("Rank = %d", got)
	}
}

func TestWithoutItems(t *testing.T) { // P6.1, P6.2, P6.3
	s := shelf.New()
	for range 2 {
		same(t, s, nil)
		if s.Deep() != 0 || s.Len() != 0 {
			t.Fatalf("Deep %d, Len %d", s.Deep(), s.Len())
		}
		for _, x := range edges() {
			absent(t, s, nil, x)
		}
		// One that had an item is as one that never had.
		if !s.Put(api.Item{}) || !s.Has(api.Item{}) || s.Deep() != 1 || !s.Drop(api.Item{}) {
			t.Fatal("the zero item is one as others are")
		}
	}
}

// edges are items in order, with the ends of both numbers, and such as are the same if only some bits are looked at.
func edges() []api.Item {
	var l []api.Item
	for _, key := range []int{math.MinInt, math.MinInt + 1, -1 << 32, -2, -1, 0, 1, 2, 1 << 32, 1<<32 + 1, api.MaxFar, math.MaxInt - 1, math.MaxInt} {
		for _, id := range []int{math.MinInt, -1 << 32, -1, 0, 1, 2, api.MaxId, 1 << 32, math.MaxInt} {
			l = append(l, api.Item{Key: key, Id: id})
		}
	}
	return l
}

func TestEdgesOfItems(t *testing.T) { // P6.1, P6.2
	c := chance(1)
	all := edges()
	for range 5 {
		s, m := shelf.New(), model{}
		for i, x := range shuffled(&c, all) {
			absent(t, s, m, x)
			put(t, s, &m, x)
			put(t, s, &m, x)
			if i%8 == 0 {
				same(t, s, m)
			}
		}
		same(t, s, all)
		for i, x := range shuffled(&c, all) {
			drop(t, s, &m, x)
			drop(t, s, &m, x)
			absent(t, s, m, x)
			if i%8 == 0 {
				same(t, s, m)
			}
		}
		same(t, s, nil)
	}
}

func TestOnlyBothNumbersAreAnItem(t *testing.T) { // P6.1
	s := shelf.New()
	m := model{}
	for _, x := range []api.Item{{Key: 3, Id: 4}, {Key: 3, Id: 5}, {Key: 4, Id: 4}, {Key: 4, Id: 3}} {
		put(t, s, &m, x)
	}
	drop(t, s, &m, api.Item{Key: 3, Id: 4})
	drop(t, s, &m, api.Item{Key: 5, Id: 4})
	drop(t, s, &m, api.Item{Key: 3, Id: 3})
	same(t, s, model{{Key: 3, Id: 5}, {Key: 4, Id: 3}, {Key: 4, Id: 4}})
}

// orders are all orders of the numbers below many.
func orders(many int) [][]int {
	if many == 0 {
		return [][]int{nil}
	}
	var l [][]int
	for _, o := range orders(many - 1) {
		for at := range many {
			l = append(l, slices.Insert(slices.Clone(o), at, many-1))
		}
	}
	return l
}

func TestAllOrdersOfFew(t *testing.T) { // P6.1, P6.2, P6.3, P6.4
	// Odd keys are put, so that there is one between any two that is not.
	key := func(n int) api.Item { return api.Item{Key: 2*n + 1} }
	for many := range 6 {
		of := orders(many)
		for _, in := range of {
			for _, out := range of {
				s, m := shelf.New(), model{}
				for _, n := range in {
					put(t, s, &m, key(n))
				}
				same(t, s, m)
				for _, n := range out {
					for even := range many + 1 {
						absent(t, s, m, api.Item{Key: 2 * even})
					}
					drop(t, s, &m, key(n))
					same(t, s, m)
				}
			}
		}
	}
}

func TestAnyPutsAndDrops(t *testing.T) { // P6.1, P6.2, P6.3
	c := chance(2)
	for _, most := range []int{1, 3, 10, 40, 150} {
		s, m := shelf.New(), model{}
		for round := range 6000 {
			x := api.Item{Key: c.upTo(most) / 2, Id: c.upTo(2)}
			// It grows for a while, then it shrinks, so that it is full and empty again and again.
			if c.upTo(9) < 3 == (round/(8*most)%2 == 0) {
				drop(t, s, &m, x)
			} else {
				put(t, s, &m, x)
			}
			bounds(t, s, len(m))
			absent(t, s, m, api.Item{Key: c.upTo(most) / 2, Id: c.upTo(4)})
			if round%(most/3+1) == 0 {
				same(t, s, m)
			}
		}
	}
}

// rising are items of a number, from the least on.
func rising(many int) []api.Item {
	var l []api.Item
	for i := range many {
		l = append(l, api.Item{Key: i / 3, Id: i % 3})
	}
	return l
}

func falling(l []api.Item) []api.Item {
	l = slices.Clone(l)
	slices.Reverse(l)
	return l
}

// inward are items from both ends on, by turns.
func inward(l []api.Item) []api.Item {
	var out []api.Item
	for low, high := 0, len(l)-1; low <= high; low, high = low+1, high-1 {
		out = append(out, l[low])
		if low < high {
			out = append(out, l[high])
		}
	}
	return out
}

// strided are items with as many between as step tells, then those between.
func strided(l []api.Item, step int) []api.Item {
	var out []api.Item
	for from := range step {
		for i := from; i < len(l); i += step {
			out = append(out, l[i])
		}
	}
	return out
}

// ways are orders of items by which a tree that is not kept in balance becomes deep.
func ways(c *chance, l []api.Item) [][]api.Item {
	return [][]api.Item{l, falling(l), inward(l), falling(inward(l)), strided(l, 2), strided(l, 16), falling(strided(l, 100)), shuffled(c, l)}
}

func TestNoneIsDeep(t *testing.T) { // P6.3
	c := chance(3)
	l := rising(3000)
	for i, in := range ways(&c, l) {
		for k, out := range ways(&c, l) {
			s := shelf.New()
			for n, x := range in {
				if !s.Put(x) {
					t.Fatalf("order %d: Put(%v) is false", i, x)
				}
				bounds(t, s, n+1)
			}
			for n, x := range out {
				if !s.Drop(x) {
					t.Fatalf("orders %d and %d: Drop(%v) is false", i, k, x)
				}
				bounds(t, s, len(l)-n-1)
			}
		}
	}
}

func TestManyItems(t *testing.T) { // P6.1, P6.2, P6.3: a shelf that goes through all items at each call does not end in time
	const many = 1 << 19
	s := shelf.New()
	for i := range many {
		if !s.Put(api.Item{Key: i, Id: -i}) {
			t.Fatalf("%d was there", i)
		}
	}
	bounds(t, s, many)
	for i := range many {
		x := api.Item{Key: i, Id: -i}
		if y, is := s.At(i); y != x || !is || s.Rank(x) != i || !s.Has(x) || s.Len() != many || s.Deep() == 0 {
			t.Fatalf("%v: At tells %v, Rank %d", x, y, s.Rank(x))
		}
	}
	for i := range many / 2 {
		if !s.Drop(api.Item{Key: 2 * i, Id: -2 * i}) {
			t.Fatalf("%d was not there", i)
		}
	}
	bounds(t, s, many/2)
	for rank, x := range s.All() {
		if x.Key != 2*rank+1 || x.Id != -x.Key {
			t.Fatalf("All tells %v with the rank %d", x, rank)
		}
	}
}

func TestDeepOfFew(t *testing.T) { // P6.3
	s := shelf.New()
	for n, want := range [][2]int{{0, 0}, {1, 1}, {2, 2}, {2, 3}, {3, 4}} {
		if deep := s.Deep(); deep < want[0] || deep > want[1] {
			t.Errorf("with %d items Deep is %d", n, deep)
		}
		s.Put(api.Item{Key: n})
	}
}

func TestAllStopsWhereItIsLeft(t *testing.T) { // P6.2
	s := shelf.New()
	c := chance(4)
	l := rising(30)
	for _, x := range shuffled(&c, l) {
		s.Put(x)
	}
	for stop := range len(l) + 1 {
		seen := 0
		for rank, x := range s.All() {
			if rank != seen || x != l[seen] {
				t.Fatalf("All tells %v with the rank %d, as number %d", x, rank, seen)
			}
			if seen == stop {
				break
			}
			seen++
		}
		if seen != stop {
			t.Fatalf("%d were told, not %d", seen, stop)
		}
	}
	same(t, s, l)
}

func TestAllAnswersAgain(t *testing.T) { // P6.2
	s := shelf.New()
	l := rising(9)
	for _, x := range falling(l) {
		s.Put(x)
	}
	all := s.All()
	for range 2 {
		pairs := 0
		for i, x := range all {
			// Asking changes nothing of what is gone through, nor does going through it within.
			if s.Rank(x) != i || !s.Has(x) || s.Len() != 9 || s.Deep() == 0 {
				t.Fatalf("%v has the rank %d", x, s.Rank(x))
			}
			for k, y := range all {
				if at, is := s.At(k); at != y || !is || y != l[k] {
					t.Fatalf("%v is told within, with the rank %d", y, k)
				}
				pairs++
			}
		}
		if pairs != 81 {
			t.Fatalf("%d pairs were told", pairs)
		}
	}
}

func TestAskingChangesNothing(t *testing.T) { // P6.1, P6.2
	s, m := shelf.New(), model{}
	for _, x := range rising(20) {
		put(t, s, &m, api.Item{Key: 2 * x.Key, Id: 2 * x.Id})
	}
	deep := s.Deep()
	for key := -1; key < 16; key++ {
		for id := -1; id < 6; id++ {
			x := api.Item{Key: key, Id: id}
			absent(t, s, m, x)
			if s.Has(x) && s.Put(x) {
				t.Fatalf("%v is new", x)
			}
			if s.Deep() != deep {
				t.Fatalf("Deep was %d, and is %d", deep, s.Deep())
			}
		}
	}
	same(t, s, m)
}

func TestSameItemsInWhateverOrder(t *testing.T) { // P6.4
	c := chance(5)
	for _, many := range []int{1, 2, 7, 64, 300} {
		l := rising(many)
		extra := make([]api.Item, 0, many)
		for _, x := range l {
			extra = append(extra, api.Item{Key: x.Key, Id: x.Id + 3})
		}
		for _, in := range ways(&c, l) {
			for _, out := range ways(&c, extra) {
				s := shelf.New()
				// What is not to stay is put between, and dropped partly between, partly at the end.
				for i, x := range in {
					s.Put(extra[i])
					s.Put(x)
					s.Drop(out[i])
				}
				for _, x := range out {
					s.Drop(x)
				}
				if !slices.Equal(told(t, s), l) || s.Len() != many {
					t.Fatalf("%d items: %v", many, told(t, s))
				}
				for rank, x := range l {
					if y, is := s.At(rank); y != x || !is || s.Rank(x) != rank {
						t.Fatalf("%d items: %v has the rank %d, %v is at %d", many, x, s.Rank(x), y, rank)
					}
				}
			}
		}
	}
}

func TestShelvesAreApart(t *testing.T) { // P6.1, R6
	a, b := shelf.New(), shelf.New()
	ma, mb := model{}, model{}
	for _, x := range rising(40) {
		put(t, a, &ma, x)
		put(t, b, &mb, api.Item{Key: -x.Key, Id: x.Id})
		if x.Id == 1 {
			drop(t, a, &ma, x)
		}
	}
	same(t, a, ma)
	same(t, b, mb)
}
