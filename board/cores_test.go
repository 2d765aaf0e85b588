package board_test

import (
	"testing"

	"diapause/api"
)

// balanced makes all moves, and tells how many there were.
func (p pair) balanced() int {
	p.t.Helper()
	for moves := 0; ; moves++ {
		if _, _, ok := p.balance(); !ok {
			return moves
		}
	}
}

// crowded is a board of some cores whose core 0 has the tasks from 1 on, which may be anywhere.
func crowded(t *testing.T, cores, tasks int) pair {
	t.Helper()
	p := newPair(t, cores)
	for id := 1; id <= tasks; id++ {
		must(t, p.spawn(id, 0, 1, 1), p.bind(id, every))
		p.is(id, api.Ready, 0)
	}
	return p
}

// moved fails if the next move is another one.
func (p pair) moved(id, to int) {
	p.t.Helper()
	x, core, ok := p.balance()
	if x != id || core != to || !ok {
		p.t.Fatalf("%d is moved to %d, %v: not %d to %d", x, core, ok, id, to)
	}
	p.is(id, api.Ready, to)
}

// still fails if there is a move.
func (p pair) still() {
	p.t.Helper()
	if id, to, ok := p.balance(); ok || id != 0 || to != 0 {
		p.t.Fatalf("%d is moved to %d", id, to)
	}
}

func TestBalance(t *testing.T) { // P17.4: from the greatest load, the least Id first, to the least one
	p := newPair(t, 3)
	p.still()
	p = crowded(t, 3, 5)
	p.moved(1, 1)
	p.moved(2, 2)
	p.moved(3, 1)
	p.still()
	p = crowded(t, 1, 5)
	p.still()
	p = crowded(t, maxCores, 200)
	number(t, p.balanced(), 196)
	p.same(5)
}

func TestBalanceCountsReadyOnesAlone(t *testing.T) { // P17.4
	p := crowded(t, 2, 4)
	must(t, p.sleep(1), p.sleep(2), p.spawn(5, 0, 1, 2), p.bind(5, 3))
	p.still()
	must(t, p.wake(1))
	p.is(1, api.Ready, 1)
	p.still()
	must(t, p.bind(1, 1), p.bind(1, 3))
	p.moved(1, 1)
	p.still()
}

func TestBalanceLeavesWhoRuns(t *testing.T) { // P17.4: those that are Cur may be on their own core alone
	p := crowded(t, 2, 3)
	list(t, p.ticks(0, 1), 1)
	p.moved(2, 1)
	p.still()
	number(t, p.b.Cur(0), 1)
	p = crowded(t, 2, 2)
	must(t, p.spawn(3, 0, 1, 1))
	list(t, p.ticks(0, 2), 1, 2)
	p.moved(1, 1)
	number(t, p.b.Cur(0), 2)
	p = crowded(t, 2, 1)
	must(t, p.spawn(2, 0, 1, 1))
	list(t, p.ticks(0, 1), 1)
	p.still()
}

func TestBalanceLeavesColdOnes(t *testing.T) { // P17.4: those that are cold may be on their own core alone; they count all the same
	p := newPair(t, 2)
	must(t, p.group(below(50, 0)), p.group(below(51, 50)))
	for id := 1; id <= 4; id++ {
		must(t, p.spawn(id, 51*(id%2), 1, 1), p.bind(id, every))
	}
	must(t, p.mark(50, true))
	p.moved(2, 1)
	p.moved(4, 1)
	p.still()
	must(t, p.bind(2, 1), p.bind(2, 3), p.bind(4, 1), p.spawn(6, 0, 1, 1))
	p.moved(2, 1)
	p.still()
	must(t, p.mark(50, false))
	p.moved(1, 1)
	p.still()
}

func TestBalanceAmongWhatIsOnlineAndMay(t *testing.T) { // P17.4
	p := newPair(t, 4)
	for id, cores := range []uint64{1: 1, 2: 1 | 1<<9, 3: 3, 4: 5, 5: 9} {
		if id > 0 {
			must(t, p.spawn(id, 0, 1, 1), p.bind(id, cores))
		}
	}
	p.toggle(1, false)
	p.moved(4, 2)
	p.moved(5, 3)
	p.still()
	p.toggle(1, true)
	p.moved(3, 1)
	p.still()
}

func TestWhoIsMovedHasItsLag(t *testing.T) { // P17.4: it is taken off, and enters the lane of the core
	p := crowded(t, 2, 2)
	list(t, p.ticks(0, 2), 1, 2)
	must(t, p.spawn(3, 0, 1, 1))
	p.moved(1, 1)
	p.lag(1, tick, 0)
	must(t, p.spawn(4, 0, 1, 2))
	list(t, p.ticks(1, 2), 4, 1)
	p = newPair(t, 2)
	must(t, p.group(below(1, 0)), p.group(below(2, 1)), p.spawn(21, 2, 3, 1), p.spawn(22, 2, 1, 1), p.spawn(30, 0, 1, 1))
	list(t, p.ticks(0, 2), 21, 30)
	must(t, p.bind(21, 3))
	p.moved(21, 1)
	p.lag(21, tick/3, 1)
	must(t, p.spawn(40, 0, 1, 2))
	// Group 1 is ahead on core 0 alone.
	list(t, p.ticks(1, 2), 21, 40)
	list(t, p.ticks(0, 2), 22, 30)
}

func TestBalanceParksWhomNoLaneTakes(t *testing.T) { // P17.4: what Balance told is told, though Enter told an error
	p := crowded(t, 2, 1)
	far := ahead(3, 0, 1, maxFar, 0)
	far.Cores = 1
	must(t, p.adopt(far), p.bind(3, 3), p.spawn(5, 0, 1, 1), p.spawn(6, 0, 1, 1), p.bind(1, 2))
	p.ticks(1, 2)
	id, to, ok := p.balance()
	if id != 3 || to != 1 || !ok {
		t.Errorf("%d, %d, %v", id, to, ok)
	}
	p.is(3, api.Parked, -1)
	p.lag(3, maxFar, 0)
	p.still()
	must(t, p.place(3))
	p.is(3, api.Parked, -1)
	must(t, p.bind(3, 1))
	p.is(3, api.Ready, 0)
	p.same(10)
}

func TestSwitch(t *testing.T) { // P17.5: off: all ready tasks of the core are parked, rising; on: none
	p := newPair(t, 3)
	must(t, p.group(below(50, 0)))
	for _, id := range []int{9, 3, 7, 8, 2, 6, 4} {
		must(t, p.spawn(id, 50*(id%2), 1, uint64(1<<(id%3))))
	}
	must(t, p.sleep(6))
	list(t, p.ticks(0, 2), 3, 9)
	list(t, p.ticks(1, 1), 4)
	was := p.all()
	list(t, p.toggle(0, false), 3, 9)
	number(t, p.b.Cur(0), 0)
	number(t, p.b.Cur(1), 4)
	if p.b.Online() != 6 || p.b.Cores() != 3 {
		t.Errorf("%b of %d", p.b.Online(), p.b.Cores())
	}
	for _, x := range was {
		now, _ := p.b.Task(x.Id)
		if x.Core == 0 {
			x.State, x.Core = api.Parked, -1
		}
		if now != x {
			t.Errorf("%v, not %v", now, x)
		}
	}
	list(t, p.toggle(0, false))
	list(t, p.toggle(1, true))
	list(t, p.toggle(0, true))
	if p.b.Online() != 7 {
		t.Errorf("%b", p.b.Online())
	}
	p.is(3, api.Parked, -1)
	p.is(9, api.Parked, -1)
	list(t, p.ticks(0, 1), 0)
	must(t, p.place(9), p.place(3))
	list(t, p.ticks(0, 1), 9)
	p.same(60)
}

func TestSwitchNothing(t *testing.T) { // P17.5: nothing, if there is no such core, or it is as on says
	p := newPair(t, 2)
	must(t, p.spawn(1, 0, 1, 1), p.spawn(2, 0, 1, 2))
	p.ticks(1, 1)
	for _, core := range append(strange(), 2, 63, 64) {
		list(t, p.toggle(core, true))
		list(t, p.toggle(core, false))
	}
	list(t, p.toggle(0, true))
	list(t, p.toggle(1, true))
	p.same(5)
	number(t, p.b.Cur(1), 2)
}

func TestAllCoresOff(t *testing.T) { // P17.5: nothing of a board keeps the last core from going
	p := newPair(t, 2)
	must(t, p.spawn(1, 0, 1, 3), p.spawn(2, 0, 1, 3), p.group(below(9, 0)), p.spawn(3, 9, 1, 3), p.mark(9, true))
	list(t, p.toggle(0, false), 1, 3)
	list(t, p.toggle(1, false), 2)
	if p.b.Online() != 0 {
		t.Errorf("%b", p.b.Online())
	}
	for core := range 2 {
		_, e := p.tick(core)
		tell(t, e, api.ErrOff)
	}
	must(t, p.place(1), p.spawn(4, 0, 1, 1), p.spawn(5, 0, 1, 3))
	for id := 1; id <= 5; id++ {
		p.is(id, api.Parked, -1)
	}
	p.still()
	p.toggle(1, true)
	must(t, p.place(1), p.place(2), p.place(3), p.place(4))
	p.is(3, api.Ready, 1)
	p.is(4, api.Parked, -1)
	list(t, p.ticks(1, 2), 1, 2)
	p.same(10)
}

func TestPlace(t *testing.T) { // P17.5: whoever is parked is placed, cold or not; it may be parked still
	p := newPair(t, 3)
	must(t, p.group(below(9, 0)), p.adopt(ahead(1, 9, 5, 77, 3)), p.spawn(2, 0, 1, 2), p.spawn(3, 0, 1, 4), p.spawn(4, 0, 1, 8), p.mark(9, true))
	list(t, p.toggle(0, false), 1)
	must(t, p.place(1), p.place(4))
	p.is(1, api.Ready, 1)
	p.lag(1, 77, 3)
	p.is(4, api.Parked, -1)
	tell(t, p.place(1), api.ErrState)
	if !p.b.Cold(1) {
		t.Error("1 is cold")
	}
	list(t, p.toggle(1, false), 1, 2)
	must(t, p.place(1), p.place(2))
	p.is(1, api.Ready, 2)
	p.is(2, api.Parked, -1)
	p.same(10)
}

func TestWhatIsTold(t *testing.T) { // P17.5, R3
	p := newPair(t, 2)
	must(t, p.group(limited(7, 0, 10, 5)), p.group(heavy(6, 7, 9)), p.spawn(1, 6, 2, 3), p.spawn(2, 0, 1, 1))
	list(t, p.ticks(0, 3), 2, 1, 2)
	if x, is := p.b.Task(1); x != (api.TaskInfo{Id: 1, Group: 6, Weight: 2, Cores: 3, State: api.Ready, Core: 0, Ran: 1}) || !is {
		t.Errorf("%v", x)
	}
	if g, is := p.b.One(7); g != (api.GroupInfo{Id: 7, Weight: 1, Band: api.Band{Period: 10, Quota: 5, Used: 1}}) || !is {
		t.Errorf("%v", g)
	}
	if g, is := p.b.One(6); g != (api.GroupInfo{Id: 6, Parent: 7, Weight: 9}) || !is {
		t.Errorf("%v", g)
	}
	for _, id := range append(strange(), 0, 6, 7, 3) {
		if x, is := p.b.Task(id); x != (api.TaskInfo{}) || is {
			t.Errorf("Task(%d) = %v, %v", id, x, is)
		}
	}
	for _, id := range append(strange(), 0, 1, 2, 3) {
		if g, is := p.b.One(id); g != (api.GroupInfo{}) || is {
			t.Errorf("One(%d) = %v, %v", id, g, is)
		}
		if id != 0 {
			list(t, p.b.Under(id))
		}
		if p.b.Cold(id) {
			t.Errorf("%d is cold", id)
		}
	}
	list(t, p.b.Tasks(), 1, 2)
	list(t, p.b.Under(0), 0, 7, 6)
	list(t, p.b.Under(7), 7, 6)
	for _, core := range append(strange(), 2, 63, 64) {
		number(t, p.b.Cur(core), 0)
	}
}

func TestListsAreMemoryOfTheirOwn(t *testing.T) { // R5
	p := crowded(t, 2, 4)
	must(t, p.group(below(8, 0)), p.group(below(9, 8)))
	for _, l := range [][]int{p.b.Tasks(), p.b.Under(0), p.b.Under(8)} {
		for i := range l {
			l[i] = 77
		}
		_ = append(l[:0], 5, 6)
	}
	p.same(10)
	l := p.toggle(0, false)
	for i := range l {
		l[i] = 77
	}
	l = p.b.Switch(1, false)
	_ = append(l, 1, 2)
	p.m.toggle(1, false)
	p.same(10)
}

func TestBoardsGoOnByThemselves(t *testing.T) { // R6
	a, b := crowded(t, 2, 4), crowded(t, 2, 4)
	a.ticks(0, 9)
	must(t, a.group(limited(9, 0, 5, 1)), a.exit(1), a.pass(3))
	a.toggle(1, false)
	b.same(10)
	list(t, b.ticks(0, 4), 1, 2, 3, 4)
}
