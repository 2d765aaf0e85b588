package scene_test

import (
	"math"
	"slices"
	"testing"

	"diapause/api"
	"diapause/scene"
)

const (
	maxId     = 1 << 20
	maxEach   = 4096
	maxDeep   = 16
	maxWeight = 1 << 20
	maxTicks  = 1 << 40
	maxPeriod = 1 << 20
	maxFar    = 1 << 61
)

// chance is numbers without a pattern, the same ones each time.
type chance uint64

func (c *chance) next() uint64 {
	*c = *c*6364136223846793005 + 1442695040888963407
	return uint64(*c) ^ uint64(*c)>>29
}

// upTo is a number from 0 to most, all of them as frequent.
func (c *chance) upTo(most int) int {
	return int((c.next() >> 8) % uint64(most+1))
}

// shuffle lays a list in no order, from its item first on.
func shuffle[T any](c *chance, l []T, first int) {
	for i := first + 1; i < len(l); i++ {
		k := first + c.upTo(i-first)
		l[i], l[k] = l[k], l[i]
	}
}

// wild are numbers that can't be, whatever they are for.
func wild() []int {
	return []int{-1, -2, -1 << 20, -1 << 32, -1<<32 + 1, -1 << 40, math.MinInt, math.MinInt + 1, 1<<61 + 1, 1 << 62, math.MaxInt - 1, math.MaxInt}
}

// inside tells whether a number is from least to most.
func inside(n, least, most int) bool { return n >= least && n <= most }

// modelGroup tells whether a group's own numbers can be, in the words of the chapters 8 and 13.
func modelGroup(g api.GroupSnap) bool {
	b := g.Band
	if !inside(b.Period, 0, maxPeriod) || !inside(b.Quota, 0, maxPeriod) || !inside(b.Used, 0, maxTicks) {
		return false
	}
	if b.Quota != 0 && b.Period == 0 || b.Quota == 0 && b.Used != 0 {
		return false
	}
	return inside(g.Id, 1, maxId) && inside(g.Weight, 1, maxWeight)
}

// modelTask tells whether a task's own numbers can be, in the words of the chapters 4 and 13.
func modelTask(t api.TaskSnap) bool {
	return inside(t.Id, 1, maxId) && inside(t.Weight, 1, maxWeight) && t.Cores != 0 && inside(t.Ran, 0, maxTicks) &&
		inside(t.Lag.V, 0, maxFar) && inside(t.Lag.Rem, 0, t.Weight-1)
}

// parents are those of all groups, by their Ids.
func parents(s api.Scene) map[int]int {
	m := map[int]int{}
	for _, g := range s.Groups {
		m[g.Id] = g.Parent
	}
	return m
}

// steps is how many a group is from one whose parent is 0; -1, if there is no end of them.
func steps(up map[int]int, id int) int {
	for many := range len(up) {
		if id = up[id]; id == 0 {
			return many
		}
	}
	return -1
}

// modelTall is how many steps a group is from the top at most; -1, if there is no end of them.
func modelTall(s api.Scene) int {
	up, tall := parents(s), 0
	for _, g := range s.Groups {
		many := steps(up, g.Id)
		if many < 0 {
			return -1
		}
		tall = max(tall, many)
	}
	return tall
}

// modelUnder is a group, and behind it the same of each of its kids, the least one first.
func modelUnder(of map[int][]api.GroupSnap, g api.GroupSnap) []api.GroupSnap {
	l := []api.GroupSnap{g}
	kids := slices.Clone(of[g.Id])
	for len(kids) > 0 {
		least := 0
		for i, x := range kids {
			if x.Id < kids[least].Id {
				least = i
			}
		}
		l = append(l, modelUnder(of, kids[least])...)
		kids = slices.Delete(kids, least, least+1)
	}
	return l
}

// modelOrder is a scene in order, if one group alone has the parent 0 and none is above itself.
func modelOrder(s api.Scene) api.Scene {
	of := map[int][]api.GroupSnap{}
	for _, g := range s.Groups {
		of[g.Parent] = append(of[g.Parent], g)
	}
	tasks := map[int]api.TaskSnap{}
	for _, t := range s.Tasks {
		tasks[t.Id] = t
	}
	var o api.Scene
	o.Groups = modelUnder(of, of[0][0])
	ids := modelIds(api.Scene{Tasks: s.Tasks})
	slices.Sort(ids)
	for _, id := range ids {
		o.Tasks = append(o.Tasks, tasks[id])
	}
	return o
}

// modelIds are the Ids as they stand.
func modelIds(s api.Scene) []int {
	l := make([]int, len(s.Groups)+len(s.Tasks))
	for i := range l {
		if i < len(s.Groups) {
			l[i] = s.Groups[i].Id
		} else {
			l[i] = s.Tasks[i-len(s.Groups)].Id
		}
	}
	return l
}

// modelNone tells whether what should be there isn't.
func modelNone(s api.Scene) bool {
	up := parents(s)
	for i, g := range s.Groups {
		if _, is := up[g.Parent]; i == 0 && g.Parent != 0 || i > 0 && g.Parent != 0 && !is {
			return true
		}
	}
	for _, t := range s.Tasks {
		if _, is := up[t.Group]; !is {
			return true
		}
	}
	return false
}

// modelForm tells whether a scene in which all is there has not the form that it should have.
func modelForm(s api.Scene) bool {
	for _, g := range s.Groups[1:] {
		if g.Parent == 0 {
			return true
		}
	}
	return modelTall(s) < 0 || !same(modelOrder(s), s)
}

// modelCheck is P13.1, one error behind the other.
func modelCheck(s api.Scene) api.Errno {
	if len(s.Groups) == 0 {
		return api.ErrShort
	}
	if len(s.Groups) > maxEach || len(s.Tasks) > maxEach {
		return api.ErrFull
	}
	for _, g := range s.Groups {
		if !modelGroup(g) {
			return api.ErrArg
		}
	}
	for _, t := range s.Tasks {
		if !modelTask(t) {
			return api.ErrArg
		}
	}
	seen := map[int]bool{}
	for _, id := range modelIds(s) {
		if seen[id] {
			return api.ErrTwice
		}
		seen[id] = true
	}
	if modelNone(s) {
		return api.ErrNone
	}
	if modelForm(s) {
		return api.ErrForm
	}
	if modelTall(s) >= maxDeep {
		return api.ErrDeep
	}
	return api.OK
}

// modelRename is what P13.2 says of Rename.
func modelRename(s api.Scene, by int) (api.Scene, api.Errno) {
	if !inside(by, 0, maxId) {
		return api.Scene{}, api.ErrArg
	}
	if e := modelCheck(s); e != api.OK {
		return api.Scene{}, e
	}
	for _, id := range modelIds(s) {
		if id+by > maxId {
			return api.Scene{}, api.ErrRange
		}
	}
	s = own(s)
	for i := range s.Groups {
		s.Groups[i].Id += by
		if i > 0 {
			s.Groups[i].Parent += by
		}
	}
	for i := range s.Tasks {
		s.Tasks[i].Id += by
		s.Tasks[i].Group += by
	}
	return s, api.OK
}

// same tells whether two scenes are: whether their lists are nil plays no part.
func same(s, o api.Scene) bool {
	return slices.Equal(s.Groups, o.Groups) && slices.Equal(s.Tasks, o.Tasks)
}

// own is a scene that shares nothing with another one.
func own(s api.Scene) api.Scene {
	return api.Scene{Groups: slices.Clone(s.Groups), Tasks: slices.Clone(s.Tasks)}
}

// check checks, and fails where that is not what the model tells, or changed what was handed in.
func check(t *testing.T, s api.Scene) api.Errno {
	t.Helper()
	was, want := own(s), modelCheck(s)
	if got := scene.Check(s); got != want {
		t.Fatalf("Check(%v) = %v, not %v", s, got, want)
	}
	if !same(s, was) {
		t.Fatalf("Check(%v) has made %v of it", was, s)
	}
	return want
}

// order puts in order, likewise, and fails where that shares a list with what was handed in.
func order(t *testing.T, s api.Scene) api.Scene {
	t.Helper()
	was, want := own(s), modelOrder(s)
	got := scene.Order(s)
	if !same(got, want) {
		t.Fatalf("Order(%v) = %v, not %v", s, got, want)
	}
	if !same(s, was) {
		t.Fatalf("Order(%v) has made %v of it", was, s)
	}
	apart(t, s, got)
	return got
}

// rename renames, likewise.
func rename(t *testing.T, s api.Scene, by int) (api.Scene, api.Errno) {
	t.Helper()
	was := own(s)
	want, e := modelRename(s, by)
	got, f := scene.Rename(s, by)
	if f != e || !same(got, want) {
		t.Fatalf("Rename(%v, %d) = %v, %v, not %v, %v", s, by, got, f, want, e)
	}
	if !same(s, was) {
		t.Fatalf("Rename(%v, %d) has made %v of it", was, by, s)
	}
	apart(t, s, got)
	return got, f
}

// apart fails if what is written into one scene is seen in the other one.
func apart(t *testing.T, s, o api.Scene) {
	t.Helper()
	was, kept := own(s), own(o)
	for i := range o.Groups {
		o.Groups[i].Id = -7
	}
	for i := range o.Tasks {
		o.Tasks[i].Id = -7
	}
	if !same(s, was) {
		t.Fatalf("%v shares a list with %v", kept, was)
	}
	copy(o.Groups, kept.Groups)
	copy(o.Tasks, kept.Tasks)
}
