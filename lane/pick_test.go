package lane_test

import (
	"math"
	"slices"
	"testing"

	"diapause/api"
)

func TestExample(t *testing.T) { // P16.3: of the chapter
	p := newPair(t)
	must(t, p.enter(task(5), up(2, 1)...), p.enter(task(6)))
	number(t, p.pick(), 5)
	number(t, p.pick(2), 6)
	p.same(10)
}

func TestPickInOrder(t *testing.T) { // P16.3: by V, of the same V by Id, be it a task or a group
	p := newPair(t)
	must(t, p.enter(task(50)), p.enter(task(10), up(60, 1)...), p.enter(task(40)), p.enter(task(70), up(30, 1)...))
	// Group 30 is the least one; its task has a greater Id than all others.
	number(t, p.pick(), 70)
	must(t, p.run(70))
	number(t, p.pick(), 40)
	must(t, p.run(40))
	number(t, p.pick(), 50)
	must(t, p.run(50))
	number(t, p.pick(), 10)
	must(t, p.run(10))
	number(t, p.pick(), 70)
	number(t, p.pick(30), 40)
	p.same(80)
}

func TestPickGoesDown(t *testing.T) { // P16.3: in each queue by what is next there, whatever is less in others
	p := newPair(t)
	must(t, p.enter(ahead(10, 1, 9*tick, 0), up(3, 1, 2, 1)...), p.enter(ahead(11, 1, 8*tick, 0), up(3, 1, 2, 1)...), p.enter(ahead(12, 1, 1, 0), up(2, 1)...), p.enter(ahead(13, 1, 1, 0)))
	number(t, p.pick(), 11)
	number(t, p.pick(3), 12)
	number(t, p.pick(2), 13)
	number(t, p.pick(2, 3), 13)
	must(t, p.run(11))
	number(t, p.pick(), 13)
	p.same(20)
	must(t, p.run(13))
	number(t, p.pick(), 12)
	p.same(20)
}

func TestPickOfShutGroups(t *testing.T) { // P16.3: one in which nobody is next is gone by, and so is what is above it
	p := newPair(t)
	// 1 has 2, that has 3 and 4; 5 has 6; and a task is last.
	must(t, p.enter(task(13), up(3, 1, 2, 1, 1, 1)...), p.enter(task(14), up(4, 1, 2, 1, 1, 1)...), p.enter(task(16), up(6, 1, 5, 1)...), p.enter(task(20)))
	for _, x := range []struct {
		shut []int
		want int
	}{
		{nil, 13}, {[]int{3}, 14}, {[]int{4}, 13}, {[]int{3, 4}, 16}, {[]int{4, 3}, 16}, {[]int{2}, 16}, {[]int{1}, 16}, {[]int{3, 4, 6}, 20}, {[]int{1, 5}, 20}, {[]int{2, 6}, 20}, {[]int{1, 6}, 20}, {[]int{5}, 13}, {[]int{5, 6}, 13}, {[]int{3, 5}, 14},
		// Twice, in any order, and with what plays no part: tasks, 0, and numbers of nobody.
		{[]int{3, 3, 3}, 14}, {[]int{6, 4, 6, 3}, 20}, {[]int{0}, 13}, {[]int{13}, 13}, {[]int{13, 14, 16, 20}, 13}, {[]int{0, 20, 1, 13, 5}, 20}, {[]int{math.MinInt, -1, 99, 1 << 32, 1<<32 + 1, math.MaxInt}, 13}, {[]int{1<<32 + 3, -3, 3}, 14},
	} {
		number(t, p.pick(x.shut...), x.want)
	}
	_, e := p.leave(20)
	must(t, e)
	number(t, p.pick(1, 5), 0)
	number(t, p.pick(3, 4, 6), 0)
	number(t, p.pick(2, 5), 0)
	number(t, p.pick(3, 4), 16)
	number(t, p.pick(0), 13)
	p.same(20)
}

func TestPickOfAnyThatIsShut(t *testing.T) { // P16.3, P16.5: each set of groups
	p := newPair(t)
	must(t, p.enter(task(11), up(1, 1)...), p.enter(task(12), up(2, 2, 1, 1)...), p.enter(task(13), up(3, 3, 2, 2, 1, 1)...), p.enter(task(14), up(4, 1, 1, 1)...), p.enter(task(15), up(5, 2)...), p.enter(task(16), up(6, 1, 5, 2)...), p.enter(task(17), up(7, 3, 6, 1, 5, 2)...))
	for round := range 40 {
		for set := range 1 << 7 {
			var shut []int
			for id := 7; id >= 1; id-- {
				if set>>(id-1)&1 == 1 {
					shut = append(shut, id)
				}
			}
			id := p.pick(shut...)
			for _, group := range p.l.Way(id) {
				if slices.Contains(shut, group) {
					t.Fatalf("%d is in %d, and that is in %v", id, group, shut)
				}
			}
			if (id == 0) != (slices.Contains(shut, 1) && slices.Contains(shut, 5)) {
				t.Fatalf("with %v shut: %d", shut, id)
			}
		}
		must(t, p.run(p.pick(1+round%7)))
	}
	p.same(20)
}

func TestPickAndRun(t *testing.T) { // P16.2, P16.3: the first three examples of the whole
	for _, x := range []struct {
		enter func(p pair)
		want  []int
	}{
		{func(p pair) { must(p.t, p.enter(task(1)), p.enter(task(2))) }, []int{1, 2, 1, 2, 1, 2}},
		{func(p pair) { must(p.t, p.enter(task(1)), p.enter(ahead(2, 2, 0, 0))) }, []int{1, 2, 2, 1, 2, 2}},
		{func(p pair) {
			must(p.t, p.enter(task(1), up(5, 1)...), p.enter(task(2), up(5, 1)...), p.enter(task(3), up(5, 1)...), p.enter(task(6)))
		}, []int{1, 6, 2, 6, 3, 6, 1, 6, 2, 6, 3, 6}},
	} {
		p := newPair(t)
		x.enter(p)
		var ran []int
		for range x.want {
			id := p.pick()
			must(t, p.run(id))
			ran = append(ran, id)
		}
		list(t, ran, x.want...)
	}
}

func TestPickOfManyMembers(t *testing.T) { // P16.3: two full queues
	p := newPair(t)
	for id := 10; id < 10+maxEach; id++ {
		tell(t, p.l.Enter(up(2, 1), api.Member{Id: id + maxEach, Weight: 1, Lag: api.Pace{V: 3 * id}}), api.OK)
	}
	for id := 10; id < 10+maxEach-1; id++ {
		tell(t, p.l.Enter(nil, api.Member{Id: id, Weight: 1, Lag: api.Pace{V: maxEach - id + 10}}), api.OK)
	}
	number(t, p.l.Pick(nil), 10+maxEach)
	number(t, p.l.Pick([]int{2}), 10+maxEach-2)
	number(t, len(p.l.Tasks()), 2*maxEach-1)
	tell(t, p.l.Run(10+maxEach), api.OK)
	number(t, p.l.Pick(nil), 10+maxEach-2)
	tell(t, p.l.Enter(up(3, 1), task(5)), api.ErrFull)
}
