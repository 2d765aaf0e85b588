package lane_test

import (
	"cmp"
	"maps"
	"math"
	"slices"
	"testing"

	"diapause/api"
	"diapause/lane"
)

const (
	maxId     = 1 << 20
	maxWeight = 1 << 20
	maxEach   = 4096
	maxFar    = 1 << 61
	tick      = 1 << 20
)

// one is a member of a queue, as far as it is.
type one struct {
	id, weight, v, rem int
	task               bool
}

// line is a group's queue, in no order, and what is kept of the group: its lag, and the weight that it had then; 0, if it never was in a queue.
type line struct {
	base   int
	all    []one
	lag    api.Pace
	weight int
}

func (l line) member(x one) api.Member {
	return api.Member{Id: x.id, Weight: x.weight, Lag: api.Pace{V: x.v - l.base, Rem: x.rem}}
}

// model is a lane in the chapter's words: whoever is sought is sought in all queues, and what may fail is done with a copy.
type model map[int]line

func (m model) clone() model {
	c := maps.Clone(m)
	for id, l := range c {
		l.all = slices.Clone(l.all)
		c[id] = l
	}
	return c
}

// find is the group in whose queue one is, and where; -1, if it is in none.
func (m model) find(id int) (group, at int) {
	for group, l := range m {
		for at, x := range l.all {
			if x.id == id {
				return group, at
			}
		}
	}
	return -1, -1
}

func (m model) isActive(id int) bool { return len(m[id].all) > 0 }

func (m model) isTask(id int) bool {
	group, at := m.find(id)
	return at >= 0 && m[group].all[at].task
}

// home is the group in whose queue one is; -1, if it is in none.
func (m model) home(id int) int {
	group, _ := m.find(id)
	return group
}

func (m model) join(group int, x api.Member, task bool) api.Errno {
	l := m[group]
	switch {
	case x.Id < 1 || x.Id > maxId || x.Weight < 1 || x.Weight > maxWeight:
		return api.ErrArg
	case x.Lag.V < 0 || x.Lag.V > maxFar || x.Lag.Rem < 0 || x.Lag.Rem >= x.Weight:
		return api.ErrArg
	case slices.ContainsFunc(l.all, func(y one) bool { return y.id == x.Id }):
		return api.ErrTwice
	case len(l.all) >= maxEach:
		return api.ErrFull
	case x.Lag.V > maxFar-l.base:
		return api.ErrRange
	}
	l.all = append(l.all, one{x.Id, x.Weight, l.base + x.Lag.V, x.Lag.Rem, task})
	m[group] = l
	return api.OK
}

func next(path []api.Step) int {
	if len(path) > 0 {
		return path[0].Id
	}
	return 0
}

// climb lets one in, and its groups, as far up as they must.
func (m model) climb(path []api.Step, x api.Member, task bool) api.Errno {
	group := next(path)
	was := m.isActive(group)
	e := m.join(group, x, task)
	if e != api.OK || was || group == 0 {
		return e
	}
	l, weight := m[group], path[0].Weight
	up := api.Member{Id: group, Weight: weight}
	if l.weight > 0 {
		up.Lag = api.Pace{V: l.lag.V, Rem: l.lag.Rem * min(max(weight, 1), maxWeight) / l.weight}
	}
	return m.climb(path[1:], up, false)
}

func (m model) loops(path []api.Step, id int) bool {
	if id != 0 && m.isActive(id) {
		return true
	}
	seen := []int{id}
	for i, step := range path {
		switch {
		case step.Id < 1, slices.Contains(seen, step.Id), m.isTask(step.Id):
			return true
		case m.isActive(step.Id) && m.home(step.Id) != next(path[i+1:]):
			return true
		}
		seen = append(seen, step.Id)
	}
	return false
}

func (m model) enter(path []api.Step, x api.Member) api.Errno {
	switch {
	case m.isTask(x.Id):
		return api.ErrTwice
	case m.loops(path, x.Id):
		return api.ErrLoop
	}
	c := m.clone()
	e := c.climb(path, x, true)
	if e == api.OK {
		maps.Copy(m, c)
	}
	return e
}

// out lets one go from its queue.
func (m model) out(id int) api.Member {
	group, at := m.find(id)
	l := m[group]
	x := l.member(l.all[at])
	l.all = slices.Delete(l.all, at, at+1)
	m[group] = l
	return x
}

func (m model) leave(id int) (api.Member, api.Errno) {
	if !m.isTask(id) {
		return api.Member{}, api.ErrNone
	}
	group := m.home(id)
	x := m.out(id)
	for group != 0 && !m.isActive(group) {
		above := m.home(group)
		up := m.out(group)
		l := m[group]
		l.lag, l.weight = up.Lag, up.Weight
		m[group] = l
		group = above
	}
	return x, api.OK
}

func (m model) run(id int) api.Errno {
	if !m.isTask(id) {
		return api.ErrNone
	}
	c := m.clone()
	for group, at := c.find(id); at >= 0; group, at = c.find(group) {
		l := c[group]
		x := &l.all[at]
		gone := tick + x.rem
		x.v, x.rem = x.v+gone/x.weight, gone%x.weight
		if x.v > maxFar {
			return api.ErrRange
		}
		least := x.v
		for _, y := range l.all {
			least = min(least, y.v)
		}
		l.base = max(l.base, least)
		c[group] = l
	}
	maps.Copy(m, c)
	return api.OK
}

func (m model) weigh(id, weight int) api.Errno {
	group, at := m.find(id)
	switch {
	case at < 0:
		return api.ErrNone
	case weight < 1 || weight > maxWeight:
		return api.ErrArg
	}
	x := &m[group].all[at]
	x.rem, x.weight = x.rem*weight/x.weight, weight
	return api.OK
}

func (m model) forget(group int) api.Errno {
	if m.isActive(group) {
		return api.ErrBusy
	}
	delete(m, group)
	return api.OK
}

// queue is a group's members, in order, with their lags.
func (m model) queue(group int) []api.Member {
	l := m[group]
	all := slices.Clone(l.all)
	slices.SortFunc(all, func(a, b one) int { return cmp.Or(cmp.Compare(a.v, b.v), cmp.Compare(a.id, b.id)) })
	var out []api.Member
	for _, x := range all {
		out = append(out, l.member(x))
	}
	return out
}

func (m model) pick(group int, shut []int) int {
	for _, x := range m.queue(group) {
		if m.isTask(x.Id) {
			return x.Id
		}
		if slices.Contains(shut, x.Id) {
			continue
		}
		if id := m.pick(x.Id, shut); id != 0 {
			return id
		}
	}
	return 0
}

func (m model) get(id int) (api.Member, bool) {
	group, at := m.find(id)
	if at < 0 {
		return api.Member{}, false
	}
	return m[group].member(m[group].all[at]), true
}

func (m model) way(id int) []int {
	var l []int
	for group := m.home(id); group > 0; group = m.home(group) {
		l = append(l, group)
	}
	return l
}

func (m model) tasks() []int {
	var ids []int
	for _, l := range m {
		for _, x := range l.all {
			if x.task {
				ids = append(ids, x.id)
			}
		}
	}
	slices.Sort(ids)
	return ids
}

// pair is a lane, and a model with which the same is done: each call fails where they answer differently.
type pair struct {
	t *testing.T
	l *lane.Lane
	m model
}

func newPair(t *testing.T) pair { return pair{t, lane.New(), model{}} }

func (p pair) enter(x api.Member, path ...api.Step) api.Errno {
	p.t.Helper()
	want := p.m.enter(path, x)
	kept := slices.Clone(path)
	if got := p.l.Enter(path, x); got != want {
		p.t.Fatalf("Enter(%v, %v) = %v, not %v", path, x, got, want)
	}
	if !slices.Equal(path, kept) {
		p.t.Fatalf("the path %v is %v now", kept, path)
	}
	p.near(x.Id)
	for _, step := range path {
		p.near(step.Id)
	}
	return want
}

func (p pair) leave(id int) (api.Member, api.Errno) {
	p.t.Helper()
	way := p.m.way(id)
	want, e := p.m.leave(id)
	if got, f := p.l.Leave(id); got != want || f != e {
		p.t.Fatalf("Leave(%d) = %v, %v, not %v, %v", id, got, f, want, e)
	}
	p.near(append(way, id)...)
	return want, e
}

func (p pair) run(id int) api.Errno {
	p.t.Helper()
	want := p.m.run(id)
	if got := p.l.Run(id); got != want {
		p.t.Fatalf("Run(%d) = %v, not %v", id, got, want)
	}
	p.near(append(p.m.way(id), id)...)
	return want
}

func (p pair) weigh(id, weight int) api.Errno {
	p.t.Helper()
	want := p.m.weigh(id, weight)
	if got := p.l.Weigh(id, weight); got != want {
		p.t.Fatalf("Weigh(%d, %d) = %v, not %v", id, weight, got, want)
	}
	p.near(id)
	return want
}

func (p pair) forget(group int) api.Errno {
	p.t.Helper()
	want := p.m.forget(group)
	if got := p.l.Forget(group); got != want {
		p.t.Fatalf("Forget(%d) = %v, not %v", group, got, want)
	}
	p.near(group)
	return want
}

func (p pair) pick(shut ...int) int {
	p.t.Helper()
	want := p.m.pick(0, shut)
	kept := slices.Clone(shut)
	if got := p.l.Pick(shut); got != want {
		p.t.Fatalf("Pick(%v) = %d, not %d", shut, got, want)
	}
	if !slices.Equal(shut, kept) {
		p.t.Fatalf("what is shut was %v, and is %v now", kept, shut)
	}
	return want
}

// near fails if what is told of some Ids, as members and as groups, is not what the model has.
func (p pair) near(ids ...int) {
	p.t.Helper()
	for _, id := range ids {
		want, is := p.m.get(id)
		if got, ok := p.l.Get(id); got != want || ok != is {
			p.t.Fatalf("Get(%d) = %v, %v, not %v, %v", id, got, ok, want, is)
		}
		if got, want := p.l.Way(id), p.m.way(id); !slices.Equal(got, want) {
			p.t.Fatalf("Way(%d) = %v, not %v", id, got, want)
		}
		if got, want := p.l.Queue(id), p.m.queue(id); !slices.Equal(got, want) {
			p.t.Fatalf("Queue(%d) = %v, not %v", id, got, want)
		}
		if got, want := p.l.Base(id), p.m[id].base; got != want {
			p.t.Fatalf("Base(%d) = %d, not %d", id, got, want)
		}
	}
}

// strange are some numbers that tasks and groups have seldom, or never.
func strange() []int {
	return []int{-1, -2, -maxId, maxId, maxId + 1, 1 << 32, 1<<32 + 1, -1 << 32, -1<<32 + 1, math.MinInt, math.MinInt + 1, math.MaxInt, math.MaxInt - 1}
}

// same fails if anything that can be told, of Ids up to this one and of all that there are, is not what the model has.
func (p pair) same(upTo int) {
	p.t.Helper()
	p.near(strange()...)
	for id := range upTo + 1 {
		p.near(id)
	}
	groups := slices.Sorted(maps.Keys(p.m))
	p.near(groups...)
	p.near(p.m.tasks()...)
	if got, want := p.l.Tasks(), p.m.tasks(); !slices.Equal(got, want) {
		p.t.Fatalf("Tasks() = %v, not %v", got, want)
	}
	p.pick()
	p.pick(groups...)
	for _, group := range groups {
		p.pick(group)
	}
}

// task is one without a lag, of weight 1.
func task(id int) api.Member { return api.Member{Id: id, Weight: 1} }

// ahead is one with a lag.
func ahead(id, weight, v, rem int) api.Member {
	return api.Member{Id: id, Weight: weight, Lag: api.Pace{V: v, Rem: rem}}
}

// up is a path: pairs of groups and their weights.
func up(l ...int) []api.Step {
	var path []api.Step
	for i := 0; i < len(l); i += 2 {
		path = append(path, api.Step{Id: l[i], Weight: l[i+1]})
	}
	return path
}

// must fails at an error.
func must(t *testing.T, l ...api.Errno) {
	t.Helper()
	for i, e := range l {
		if e != api.OK {
			t.Fatalf("call %d: %v", i, e)
		}
	}
}

// tell fails if a call told another error.
func tell(t *testing.T, got, want api.Errno) {
	t.Helper()
	if got != want {
		t.Fatalf("%v, not %v", got, want)
	}
}

// list fails if a list that was told is another one.
func list(t *testing.T, got []int, want ...int) {
	t.Helper()
	if !slices.Equal(got, want) {
		t.Fatalf("%v, not %v", got, want)
	}
}

// number fails if a number that was told is another one.
func number(t *testing.T, got, want int) {
	t.Helper()
	if got != want {
		t.Fatalf("%d, not %d", got, want)
	}
}
