package shelf

import (
	"math/bits"
	"testing"

	"diapause/api"
	"diapause/pace"
)

// look goes through the tree from a place on down, between two items (nil is no bound), and tells how many there are, and how deep.
func look(t *testing.T, s *Shelf, at int, low, high *api.Item, seen map[int]int) (many, deep int) {
	t.Helper()
	if at == none {
		return 0, 0
	}
	if at < 1 || at > len(s.nodes) || seen[at] > 0 {
		t.Fatalf("place %d of %d, met %d times", at, len(s.nodes), seen[at]+1)
	}
	seen[at]++
	n := s.nodes[at-1]
	if low != nil && !pace.Less(*low, n.item) || high != nil && !pace.Less(n.item, *high) {
		t.Fatalf("%v is not between %v and %v", n.item, low, high)
	}
	lessMany, lessDeep := look(t, s, n.below[less], low, &n.item, seen)
	moreMany, moreDeep := look(t, s, n.below[more], &n.item, high, seen)
	many, deep = lessMany+1+moreMany, max(lessDeep, moreDeep)+1
	if n.many != many || n.deep != deep {
		t.Fatalf("%v says %d items, %d deep; it is %d, %d", n.item, n.many, n.deep, many, deep)
	}
	if off := lessDeep - moreDeep; off < -1 || off > 1 {
		t.Fatalf("below %v it is %d and %d deep", n.item, lessDeep, moreDeep)
	}
	return many, deep
}

// whole fails if a shelf is no tree of all its items, or its Deep is not the greatest depth.
func whole(t *testing.T, s *Shelf) {
	t.Helper()
	seen := map[int]int{}
	many, deep := look(t, s, s.top, nil, nil, seen)
	if many != len(s.nodes) || s.Len() != many || s.Deep() != deep || deep > 2*bits.Len(uint(many)) {
		t.Fatalf("Len %d, Deep %d; it has %d items, %d deep, and %d nodes", s.Len(), s.Deep(), many, deep, len(s.nodes))
	}
}

// key is one of many keys, without a pattern, for each n another one.
func key(n, many int) api.Item {
	return api.Item{Key: n * 7919 % many, Id: 1}
}

func TestShelfIsATree(t *testing.T) { // P6.1, P6.3
	const many = 400
	for name, of := range map[string]func(int) api.Item{
		"rising":  func(n int) api.Item { return api.Item{Key: n} },
		"falling": func(n int) api.Item { return api.Item{Key: -n} },
		"mixed":   func(n int) api.Item { return key(n, many) },
	} {
		t.Run(name, func(t *testing.T) {
			s := New()
			for n := range many {
				s.Put(of(n))
				whole(t, s)
			}
			for n := range many {
				// 21 and many have no divisor in common: each is dropped once.
				if !s.Drop(of(n * 21 % many)) {
					t.Fatalf("%v was not there", of(n*21%many))
				}
				whole(t, s)
			}
			if s.Len() != 0 {
				t.Fatalf("%d are left", s.Len())
			}
		})
	}
}

func TestTopIsDropped(t *testing.T) { // P6.1, P6.3: the one that stands above all others
	s := New()
	for n := range 500 {
		s.Put(key(n, 1<<20))
	}
	for left := 500; left > 0; left-- {
		x := s.node(s.top).item
		if !s.Drop(x) || s.Has(x) || s.Len() != left-1 {
			t.Fatalf("%v, of %d", x, left)
		}
		whole(t, s)
	}
}

func TestDeepestTreesThatCanBe(t *testing.T) { // P6.3: each side as thin as it may be, so that each drop makes much to mend
	for deep := range 14 {
		s := New()
		lay(s, 0, 1<<deep, deep)
		whole(t, s)
		if s.Deep() != deep {
			t.Fatalf("Deep is %d, not %d", s.Deep(), deep)
		}
		for s.Len() > 0 {
			x, _ := s.At(s.Len() / 3)
			if s.Len()%2 == 0 {
				x, _ = s.At(0)
			}
			if !s.Drop(x) {
				t.Fatalf("%v was not there", x)
			}
			whole(t, s)
		}
	}
}

// lay puts the fewest items by which a tree is so deep, row by row, so that nothing is lifted.
func lay(s *Shelf, low, high, deep int) {
	type part struct{ low, high, deep int }
	for row := []part{{low, high, deep}}; len(row) > 0; {
		p := row[0]
		row = row[1:]
		if p.deep <= 0 {
			continue
		}
		mid := (p.low + p.high) / 2
		s.Put(api.Item{Key: mid})
		row = append(row, part{p.low, mid, p.deep - 1}, part{mid, p.high, p.deep - 2})
	}
}

func TestPlacesHaveNoHoles(t *testing.T) { // P6.1: what is dropped leaves nothing behind
	s := New()
	for n := range 100000 {
		s.Put(api.Item{Key: n})
		if n >= 10 && !s.Drop(api.Item{Key: n - 10}) {
			t.Fatalf("%d was not there", n-10)
		}
	}
	whole(t, s)
	if len(s.nodes) != 10 || cap(s.nodes) > 100 {
		t.Fatalf("%d nodes, room for %d", len(s.nodes), cap(s.nodes))
	}
}
