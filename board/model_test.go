package board_test

import (
	"maps"
	"math"
	"slices"
	"testing"

	"diapause/api"
	"diapause/board"
	"diapause/lane"
)

const (
	maxCores  = 64
	maxDeep   = 16
	maxWeight = 1 << 20
	maxTicks  = 1 << 40
	maxId     = 1 << 20
	maxEach   = 4096
	maxPeriod = 1 << 20
	maxFar    = 1 << 61
	tick      = 1 << 20
	every     = math.MaxUint64
)

// model is a board in the chapter's words. Its lanes are lanes, as the chapter speaks of these; all else is looked up anew whenever it is asked for.
type model struct {
	lanes  []*lane.Lane
	cur    []int
	online []bool
	now    int
	groups map[int]api.GroupInfo
	tasks  map[int]api.TaskInfo
}

func newModel(cores int) *model {
	m := &model{nil, make([]int, cores), make([]bool, cores), 0, map[int]api.GroupInfo{}, map[int]api.TaskInfo{}}
	for core := range cores {
		m.lanes = append(m.lanes, lane.New())
		m.online[core] = true
	}
	return m
}

func (m *model) isGroup(id int) bool {
	_, is := m.groups[id]
	return is
}

func (m *model) isTask(id int) bool {
	_, is := m.tasks[id]
	return is
}

func (m *model) isHome(id int) bool { return id == 0 || m.isGroup(id) }

// way is a group, and those above it, but 0.
func (m *model) way(group int) []int {
	if !m.isGroup(group) {
		return nil
	}
	return append([]int{group}, m.way(m.groups[group].Parent)...)
}

// under is a group, and all below it, as chapter 12 tells them.
func (m *model) under(id int) []int {
	if !m.isHome(id) {
		return nil
	}
	var kids []int
	for kid, g := range m.groups {
		if g.Parent == id {
			kids = append(kids, kid)
		}
	}
	slices.Sort(kids)
	l := []int{id}
	for _, kid := range kids {
		l = append(l, m.under(kid)...)
	}
	return l
}

func (m *model) cold(id int) bool {
	if t, is := m.tasks[id]; is {
		return m.cold(t.Group)
	}
	g, is := m.groups[id]
	return is && (g.Mark || m.cold(g.Parent))
}

func (m *model) isFull() bool { return len(m.groups)+len(m.tasks) >= maxEach }

func (m *model) steps(group int) []api.Step {
	var l []api.Step
	for _, id := range m.way(group) {
		l = append(l, api.Step{Id: id, Weight: m.groups[id].Weight})
	}
	return l
}

// off makes a task one that is on no core.
func (m *model) off(id, state int) {
	t := m.tasks[id]
	t.State, t.Core = state, -1
	m.tasks[id] = t
	for core := range m.cur {
		if m.cur[core] == id {
			m.cur[core] = 0
		}
	}
}

func (m *model) leave(id int) {
	t := m.tasks[id]
	x, _ := m.lanes[t.Core].Leave(id)
	t.Lag = x.Lag
	m.tasks[id] = t
}

func (m *model) enter(id, core int) {
	t := m.tasks[id]
	if m.lanes[core].Enter(m.steps(t.Group), api.Member{Id: id, Weight: t.Weight, Lag: t.Lag}) != api.OK {
		m.off(id, api.Parked)
		return
	}
	t.State, t.Core = api.Ready, core
	m.tasks[id] = t
}

// takeOff takes a task from its core, if it is on one.
func (m *model) takeOff(id, state int) {
	if m.tasks[id].State == api.Ready {
		m.leave(id)
	}
	m.off(id, state)
}

// choose is the core that is online, and one of these, with the fewest tasks; -1, if there is none.
func (m *model) choose(cores uint64) int {
	best := -1
	for core, on := range m.online {
		if on && cores>>core&1 == 1 && (best < 0 || m.load(core) < m.load(best)) {
			best = core
		}
	}
	return best
}

func (m *model) load(core int) int { return len(m.lanes[core].Tasks()) }

func (m *model) place(id int) {
	m.off(id, api.Parked)
	if core := m.choose(m.tasks[id].Cores); core >= 0 {
		m.enter(id, core)
	}
}

func rightBand(b api.Band) bool {
	in := b.Period >= 0 && b.Period <= maxPeriod && b.Quota >= 0 && b.Quota <= maxPeriod && b.Used >= 0 && b.Used <= maxTicks
	return in && (b.Quota == 0 || b.Period > 0) && (b.Quota > 0 || b.Used == 0)
}

func between(n, least, most int) bool { return n >= least && n <= most }

func (m *model) group(g api.GroupInfo) api.Errno {
	switch {
	case !between(g.Weight, 1, maxWeight), !rightBand(g.Band), !between(g.Id, 1, maxId):
		return api.ErrArg
	case m.isGroup(g.Id), m.isTask(g.Id):
		return api.ErrTwice
	case !m.isHome(g.Parent):
		return api.ErrNone
	case m.isFull():
		return api.ErrFull
	case len(m.way(g.Parent)) == maxDeep:
		return api.ErrDeep
	case m.cold(g.Parent):
		return api.ErrCold
	}
	m.groups[g.Id] = g
	return api.OK
}

func (m *model) drop(id int) api.Errno {
	if !m.isGroup(id) {
		return api.ErrNone
	}
	busy := len(m.under(id)) > 1
	for _, t := range m.tasks {
		busy = busy || t.Group == id
	}
	switch {
	case busy:
		return api.ErrBusy
	case m.cold(id):
		return api.ErrCold
	}
	delete(m.groups, id)
	for _, l := range m.lanes {
		l.Forget(id)
	}
	return api.OK
}

func (m *model) move(id, parent int) api.Errno {
	if !m.isGroup(id) || !m.isHome(parent) {
		return api.ErrNone
	}
	under := m.under(id)
	if slices.Contains(under, parent) {
		return api.ErrLoop
	}
	for _, x := range under {
		if len(m.way(x))-len(m.way(id))+1+len(m.way(parent)) > maxDeep {
			return api.ErrDeep
		}
	}
	if m.cold(parent) || slices.ContainsFunc(under, m.cold) {
		return api.ErrCold
	}
	var below []int
	for _, x := range slices.Sorted(maps.Keys(m.tasks)) {
		if t := m.tasks[x]; t.State == api.Ready && slices.Contains(under, t.Group) {
			below = append(below, x)
			m.leave(x)
		}
	}
	g := m.groups[id]
	g.Parent = parent
	m.groups[id] = g
	for _, x := range below {
		m.enter(x, m.tasks[x].Core)
	}
	return api.OK
}

func (m *model) adopt(t api.TaskInfo) api.Errno {
	lag := t.Lag.V >= 0 && t.Lag.V <= maxFar && t.Lag.Rem >= 0 && t.Lag.Rem < t.Weight
	switch {
	case !between(t.Id, 1, maxId), !between(t.Weight, 1, maxWeight), t.Cores == 0, !between(t.Ran, 0, maxTicks), !lag, !between(t.State, 1, 3):
		return api.ErrArg
	case m.isGroup(t.Id), m.isTask(t.Id):
		return api.ErrTwice
	case !m.isHome(t.Group):
		return api.ErrNone
	case m.isFull():
		return api.ErrFull
	case m.cold(t.Group):
		return api.ErrCold
	}
	m.tasks[t.Id] = t
	m.off(t.Id, api.Asleep)
	if t.State != api.Asleep {
		m.place(t.Id)
	}
	return api.OK
}

// may tells the error of a task that isn't there, or is cold.
func (m *model) may(id int) api.Errno {
	switch {
	case !m.isTask(id):
		return api.ErrNone
	case m.cold(id):
		return api.ErrCold
	}
	return api.OK
}

func (m *model) exit(id int) api.Errno {
	e := m.may(id)
	if e == api.OK {
		m.takeOff(id, api.Parked)
		delete(m.tasks, id)
	}
	return e
}

func (m *model) sleep(id int) api.Errno {
	e := m.may(id)
	if e == api.OK && m.tasks[id].State != api.Ready {
		e = api.ErrState
	}
	if e == api.OK {
		m.takeOff(id, api.Asleep)
	}
	return e
}

func (m *model) wake(id int) api.Errno {
	e := m.may(id)
	if e == api.OK && m.tasks[id].State != api.Asleep {
		e = api.ErrState
	}
	if e == api.OK {
		m.place(id)
	}
	return e
}

func (m *model) bind(id int, cores uint64) api.Errno {
	e := m.may(id)
	if e != api.ErrNone && cores == 0 {
		e = api.ErrArg
	}
	if e != api.OK {
		return e
	}
	t := m.tasks[id]
	t.Cores = cores
	m.tasks[id] = t
	if t.State == api.Ready && cores>>t.Core&1 == 0 {
		m.takeOff(id, api.Parked)
	}
	if m.tasks[id].State == api.Parked {
		m.place(id)
	}
	return api.OK
}

func (m *model) weigh(id, weight int) api.Errno {
	switch {
	case !m.isGroup(id) && !m.isTask(id):
		return api.ErrNone
	case !between(weight, 1, maxWeight):
		return api.ErrArg
	case m.cold(id):
		return api.ErrCold
	}
	if g, is := m.groups[id]; is {
		g.Weight = weight
		m.groups[id] = g
		for _, l := range m.lanes {
			l.Weigh(id, weight)
		}
		return api.OK
	}
	t := m.tasks[id]
	if t.State == api.Ready {
		m.lanes[t.Core].Weigh(id, weight)
	} else {
		t.Lag.Rem = t.Lag.Rem * weight / t.Weight
	}
	t.Weight = weight
	m.tasks[id] = t
	return api.OK
}

func (m *model) mark(id int, is bool) api.Errno {
	g, known := m.groups[id]
	switch {
	case !known:
		return api.ErrNone
	case g.Mark == is:
		return api.ErrState
	}
	g.Mark = is
	m.groups[id] = g
	return api.OK
}

func (m *model) tick(core int) (int, api.Errno) {
	switch {
	case !between(core, 0, len(m.lanes)-1):
		return 0, api.ErrArg
	case !m.online[core]:
		return 0, api.ErrOff
	}
	if id := m.cur[core]; id != 0 {
		m.lanes[core].Run(id)
		t := m.tasks[id]
		if t.Ran < maxTicks {
			t.Ran++
		}
		m.tasks[id] = t
		for _, x := range m.way(t.Group) {
			g := m.groups[x]
			if g.Band.Quota > 0 && g.Band.Used < maxTicks {
				g.Band.Used++
			}
			m.groups[x] = g
		}
	}
	m.cur[core] = m.lanes[core].Pick(m.shut())
	return m.cur[core], api.OK
}

func (m *model) shut() []int {
	var l []int
	for id, g := range m.groups {
		if g.Mark || g.Band.Quota > 0 && g.Band.Used >= g.Band.Quota {
			l = append(l, id)
		}
	}
	return l
}

func (m *model) pass(n int) api.Errno {
	switch {
	case !between(n, 0, maxTicks):
		return api.ErrArg
	case m.now+n > maxTicks:
		return api.ErrRange
	}
	for id, g := range m.groups {
		if p := g.Band.Period; p > 0 && (m.now+n)/p > m.now/p {
			g.Band.Used = 0
		}
		m.groups[id] = g
	}
	m.now += n
	return api.OK
}

// better is the core to which a task had better go; -1, if it stays.
func (m *model) better(id int) int {
	t := m.tasks[id]
	to := m.choose(t.Cores)
	if m.cur[t.Core] == id || m.cold(id) || to < 0 || m.load(to)+1 >= m.load(t.Core) {
		return -1
	}
	return to
}

func (m *model) balance() (id, to int, ok bool) {
	for load := len(m.tasks); load > 0; load-- {
		for core := range m.lanes {
			if m.load(core) != load {
				continue
			}
			for _, id := range m.lanes[core].Tasks() {
				if to := m.better(id); to >= 0 {
					m.takeOff(id, api.Parked)
					m.enter(id, to)
					return id, to, true
				}
			}
		}
	}
	return 0, 0, false
}

func (m *model) toggle(core int, on bool) []int {
	if !between(core, 0, len(m.lanes)-1) || m.online[core] == on {
		return nil
	}
	m.online[core] = on
	if on {
		return nil
	}
	l := m.lanes[core].Tasks()
	for _, id := range l {
		m.takeOff(id, api.Parked)
	}
	return l
}

func (m *model) replace(id int) api.Errno {
	switch {
	case !m.isTask(id):
		return api.ErrNone
	case m.tasks[id].State != api.Parked:
		return api.ErrState
	}
	m.place(id)
	return api.OK
}

func (m *model) task(id int) (api.TaskInfo, bool) {
	t, is := m.tasks[id]
	if is && t.State == api.Ready {
		x, _ := m.lanes[t.Core].Get(id)
		t.Lag = x.Lag
	}
	return t, is
}

// set is the cores that are online.
func (m *model) set() uint64 {
	set := uint64(0)
	for core, on := range m.online {
		if on {
			set |= 1 << core
		}
	}
	return set
}

// pair is a board, and a model with which the same is done: each call fails where they answer differently.
type pair struct {
	t *testing.T
	b *board.Board
	m *model
}

func newPair(t *testing.T, cores int) pair {
	t.Helper()
	b, e := board.New(cores)
	must(t, e)
	return pair{t, b, newModel(cores)}
}

// told fails if a call told another error than that of the model, or changed something that has to do with some Ids in another way.
func (p pair) told(what string, got, want api.Errno, ids ...int) api.Errno {
	p.t.Helper()
	if got != want {
		p.t.Fatalf("%s%v = %v, not %v", what, ids, got, want)
	}
	p.near(ids...)
	return want
}

func (p pair) group(g api.GroupInfo) api.Errno {
	p.t.Helper()
	return p.told("Group", p.b.Group(g), p.m.group(g), g.Id, g.Parent)
}

func (p pair) drop(id int) api.Errno {
	p.t.Helper()
	parent := p.m.groups[id].Parent
	return p.told("Drop", p.b.Drop(id), p.m.drop(id), id, parent)
}

func (p pair) move(id, parent int) api.Errno {
	p.t.Helper()
	old := p.m.groups[id].Parent
	e := p.told("Move", p.b.Move(id, parent), p.m.move(id, parent), id, parent, old)
	p.near(p.m.under(id)...)
	return e
}

func (p pair) spawn(id, group, weight int, cores uint64) api.Errno {
	p.t.Helper()
	want := p.m.adopt(api.TaskInfo{Id: id, Group: group, Weight: weight, Cores: cores, State: api.Ready})
	return p.told("Spawn", p.b.Spawn(id, group, weight, cores), want, id)
}

func (p pair) adopt(t api.TaskInfo) api.Errno {
	p.t.Helper()
	return p.told("Adopt", p.b.Adopt(t), p.m.adopt(t), t.Id)
}

func (p pair) exit(id int) api.Errno {
	p.t.Helper()
	return p.told("Exit", p.b.Exit(id), p.m.exit(id), id)
}

func (p pair) sleep(id int) api.Errno {
	p.t.Helper()
	return p.told("Sleep", p.b.Sleep(id), p.m.sleep(id), id)
}

func (p pair) wake(id int) api.Errno {
	p.t.Helper()
	return p.told("Wake", p.b.Wake(id), p.m.wake(id), id)
}

func (p pair) weigh(id, weight int) api.Errno {
	p.t.Helper()
	return p.told("Weigh", p.b.Weigh(id, weight), p.m.weigh(id, weight), id)
}

func (p pair) bind(id int, cores uint64) api.Errno {
	p.t.Helper()
	return p.told("Bind", p.b.Bind(id, cores), p.m.bind(id, cores), id)
}

func (p pair) mark(id int, is bool) api.Errno {
	p.t.Helper()
	return p.told("Mark", p.b.Mark(id, is), p.m.mark(id, is), id)
}

func (p pair) tick(core int) (int, api.Errno) {
	p.t.Helper()
	ran := p.m.tasks[p.b.Cur(core)]
	want, e := p.m.tick(core)
	got, f := p.b.Tick(core)
	if got != want {
		p.t.Fatalf("Tick(%d) = %d, not %d", core, got, want)
	}
	p.told("Tick", f, e, core)
	p.near(append(p.m.way(ran.Group), ran.Id, got)...)
	return want, e
}

// ticks is who is picked by some ticks of a core, one behind the other.
func (p pair) ticks(core, many int) []int {
	p.t.Helper()
	var l []int
	for range many {
		id, e := p.tick(core)
		must(p.t, e)
		l = append(l, id)
	}
	return l
}

func (p pair) pass(n int) api.Errno {
	p.t.Helper()
	return p.told("Pass", p.b.Pass(n), p.m.pass(n), slices.Collect(maps.Keys(p.m.groups))...)
}

func (p pair) balance() (id, to int, ok bool) {
	p.t.Helper()
	id, to, ok = p.m.balance()
	if x, core, is := p.b.Balance(); x != id || core != to || is != ok {
		p.t.Fatalf("Balance() = %d, %d, %v, not %d, %d, %v", x, core, is, id, to, ok)
	}
	p.near(id)
	return id, to, ok
}

func (p pair) toggle(core int, on bool) []int {
	p.t.Helper()
	want := p.m.toggle(core, on)
	if got := p.b.Switch(core, on); !slices.Equal(got, want) {
		p.t.Fatalf("Switch(%d, %v) = %v, not %v", core, on, got, want)
	}
	p.near(want...)
	return want
}

func (p pair) place(id int) api.Errno {
	p.t.Helper()
	return p.told("Place", p.b.Place(id), p.m.replace(id), id)
}

// near fails if what is told of some Ids, or of any core, is not what the model has.
func (p pair) near(ids ...int) {
	p.t.Helper()
	for _, id := range ids {
		want, is := p.m.task(id)
		if got, ok := p.b.Task(id); got != want || ok != is {
			p.t.Fatalf("Task(%d) = %v, %v, not %v, %v", id, got, ok, want, is)
		}
		group, is := p.m.groups[id]
		if got, ok := p.b.One(id); got != group || ok != is {
			p.t.Fatalf("One(%d) = %v, %v, not %v, %v", id, got, ok, group, is)
		}
		if got, want := p.b.Cold(id), p.m.cold(id); got != want {
			p.t.Fatalf("Cold(%d) = %v, not %v", id, got, want)
		}
	}
	for core, want := range p.m.cur {
		if got := p.b.Cur(core); got != want {
			p.t.Fatalf("Cur(%d) = %d, not %d", core, got, want)
		}
	}
	if p.b.Online() != p.m.set() || p.b.Now() != p.m.now || p.b.Cores() != len(p.m.lanes) {
		p.t.Fatalf("%b is online of %d at %d, not %b of %d at %d", p.b.Online(), p.b.Cores(), p.b.Now(), p.m.set(), len(p.m.lanes), p.m.now)
	}
}

// strange are some numbers that tasks, groups and cores have seldom, or never.
func strange() []int {
	return []int{-1, -2, -64, -maxId, maxId, maxId + 1, 1 << 32, 1<<32 + 1, -1 << 32, -1<<32 + 1, math.MinInt, math.MinInt + 1, math.MaxInt, math.MaxInt - 1}
}

// same fails if anything that can be told, of Ids up to this one and of all that there are, is not what the model has.
func (p pair) same(upTo int) {
	p.t.Helper()
	ids := append(strange(), slices.Collect(maps.Keys(p.m.tasks))...)
	ids = append(ids, slices.Collect(maps.Keys(p.m.groups))...)
	for id := range upTo + 1 {
		ids = append(ids, id)
	}
	p.near(ids...)
	for _, id := range append(ids, 0) {
		list(p.t, p.b.Under(id), p.m.under(id)...)
	}
	list(p.t, p.b.Tasks(), slices.Sorted(maps.Keys(p.m.tasks))...)
	for _, core := range append(strange(), len(p.m.cur)) {
		number(p.t, p.b.Cur(core), 0)
	}
}

// alike fails if a call that should tell an error tells another one, or if it changed anything.
func (p pair) alike(got, want api.Errno) {
	p.t.Helper()
	tell(p.t, got, want)
	p.same(20)
}

// is fails if a task has another state, or another core.
func (p pair) is(id, state, core int) {
	p.t.Helper()
	if t, ok := p.b.Task(id); !ok || t.State != state || t.Core != core {
		p.t.Fatalf("the task %d is %v, %v: not %d on %d", id, t, ok, state, core)
	}
}

// lag fails if a task has another lag.
func (p pair) lag(id, v, rem int) {
	p.t.Helper()
	if t, ok := p.b.Task(id); !ok || t.Lag != (api.Pace{V: v, Rem: rem}) {
		p.t.Fatalf("the task %d is %v, %v: not so far as %d, %d", id, t, ok, v, rem)
	}
}

// used fails if a group has had another number of ticks.
func (p pair) used(id, ticks int) {
	p.t.Helper()
	if g, ok := p.b.One(id); !ok || g.Band.Used != ticks {
		p.t.Fatalf("the group %d is %v, %v: it has not used %d", id, g, ok, ticks)
	}
}

// below is a group of weight 1 without a limit.
func below(id, parent int) api.GroupInfo { return api.GroupInfo{Id: id, Parent: parent, Weight: 1} }

// heavy is a group of a weight.
func heavy(id, parent, weight int) api.GroupInfo {
	return api.GroupInfo{Id: id, Parent: parent, Weight: weight}
}

// limited is a group that has some ticks in a period.
func limited(id, parent, period, quota int) api.GroupInfo {
	return api.GroupInfo{Id: id, Parent: parent, Weight: 1, Band: api.Band{Period: period, Quota: quota}}
}

// ahead is a ready task in a group that has a lag, and may be anywhere.
func ahead(id, group, weight, v, rem int) api.TaskInfo {
	return api.TaskInfo{Id: id, Group: group, Weight: weight, Cores: every, State: api.Ready, Lag: api.Pace{V: v, Rem: rem}}
}

// must fails at an error.
func must(t *testing.T, l ...api.Errno) {
	t.Helper()
	for i, e := range l {
		if e != api.OK {
			t.Fatalf("call %d: %v", i, e)
		}
	}
}

// tell fails if a call told another error.
func tell(t *testing.T, got, want api.Errno) {
	t.Helper()
	if got != want {
		t.Fatalf("%v, not %v", got, want)
	}
}

// list fails if a list that was told is another one.
func list(t *testing.T, got []int, want ...int) {
	t.Helper()
	if !slices.Equal(got, want) {
		t.Fatalf("%v, not %v", got, want)
	}
}

// number fails if a number that was told is another one.
func number(t *testing.T, got, want int) {
	t.Helper()
	if got != want {
		t.Fatalf("%d, not %d", got, want)
	}
}
