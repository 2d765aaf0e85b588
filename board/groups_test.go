package board_test

import (
	"math"
	"testing"

	"diapause/api"
	"diapause/board"
)

func TestNew(t *testing.T) { // P17.1, P17.5
	for cores := 1; cores <= maxCores; cores++ {
		p := newPair(t, cores)
		p.same(3)
		number(t, p.b.Cores(), cores)
		if p.b.Online() != math.MaxUint64>>(maxCores-cores) {
			t.Errorf("of %d cores %b are online", cores, p.b.Online())
		}
		list(t, p.b.Under(0), 0)
		list(t, p.ticks(cores-1, 1), 0)
	}
	for _, cores := range append(strange(), 0, maxCores+1, 128) {
		if b, e := board.New(cores); b != nil || e != api.ErrArg {
			t.Errorf("New(%d) = %v, %v", cores, b, e)
		}
	}
}

func TestGroup(t *testing.T) { // P17.1
	p := newPair(t, 2)
	full := api.GroupInfo{Id: 7, Parent: 0, Weight: 5, Band: api.Band{Period: 9, Quota: 3, Used: 2}}
	must(t, p.group(full), p.group(below(maxId, 7)), p.group(below(1, 7)), p.group(heavy(3, maxId, maxWeight)))
	if g, is := p.b.One(7); g != full || !is {
		t.Errorf("%v, %v, not %v", g, is, full)
	}
	if g, is := p.b.One(maxId); g != (api.GroupInfo{Id: maxId, Parent: 7, Weight: 1}) || !is {
		t.Errorf("%v, %v", g, is)
	}
	list(t, p.b.Under(0), 0, 7, 1, maxId, 3)
	list(t, p.b.Under(maxId), maxId, 3)
	list(t, p.b.Under(2))
	p.same(10)
}

func TestGroupWithAMark(t *testing.T) { // P17.1, P17.3: who is made with a mark is marked
	p := newPair(t, 1)
	must(t, p.group(api.GroupInfo{Id: 1, Weight: 1, Mark: true}), p.spawn(5, 0, 1, 1))
	if !p.b.Cold(1) || p.b.Cold(5) || p.b.Cold(0) {
		t.Error("1 alone is cold")
	}
	p.alike(p.mark(1, true), api.ErrState)
	p.alike(p.group(below(2, 1)), api.ErrCold)
	must(t, p.mark(1, false), p.group(below(2, 1)))
	p.same(10)
}

func TestBandsOfNewGroups(t *testing.T) { // P17.1: which bands can be
	p := newPair(t, 1)
	id := 0
	for _, b := range []api.Band{{}, {Period: 1}, {Period: maxPeriod}, {Period: 1, Quota: 1}, {Period: 1, Quota: maxPeriod}, {Period: maxPeriod, Quota: 1, Used: maxTicks}} {
		id++
		tell(t, p.group(api.GroupInfo{Id: id, Weight: 1, Band: b}), api.OK)
		if g, is := p.b.One(id); g.Band != b || !is {
			t.Errorf("%v, %v, not %v", g, is, b)
		}
	}
	for _, b := range []api.Band{{Quota: 1}, {Used: 1}, {Period: 1, Used: 1}, {Period: maxPeriod + 1}, {Period: -1}, {Period: 1, Quota: -1}, {Period: 1, Quota: maxPeriod + 1}, {Period: 1, Quota: 1, Used: -1}, {Period: 1, Quota: 1, Used: maxTicks + 1}} {
		p.alike(p.group(api.GroupInfo{Id: 9, Weight: 1, Band: b}), api.ErrArg)
	}
}

func TestWrongGroups(t *testing.T) { // P17.1: each reason for ErrArg by itself
	p := newPair(t, 1)
	for _, n := range append(strange(), 0, maxWeight+1) {
		want := api.ErrArg
		if n == maxId {
			want = api.OK
		}
		p.alike(p.group(heavy(n, 0, 1)), want)
		p.alike(p.group(heavy(1, 0, n)), want)
		if want == api.OK {
			must(t, p.drop(1))
		}
	}
}

// deep is a board with as many groups as may be one below the other: 1 in 0, 2 in 1, and so on.
func deep(t *testing.T) pair {
	t.Helper()
	p := newPair(t, 1)
	for id := 1; id <= maxDeep; id++ {
		must(t, p.group(below(id, id-1)))
	}
	return p
}

func TestGroupErrorsInOrder(t *testing.T) { // P17.1, R2, R3: each error is told though all those behind it apply
	p := deep(t)
	must(t, p.spawn(50, maxDeep, 1, 1), p.mark(maxDeep, true))
	wrong := api.Band{Quota: 1}
	p.alike(p.group(api.GroupInfo{Id: 1, Parent: 99, Weight: 0}), api.ErrArg)
	p.alike(p.group(api.GroupInfo{Id: 1, Parent: 99, Weight: 1, Band: wrong}), api.ErrArg)
	p.alike(p.group(below(0, 99)), api.ErrArg)
	p.alike(p.group(below(1, 99)), api.ErrTwice)
	p.alike(p.group(below(50, 99)), api.ErrTwice)
	p.alike(p.group(below(99, 99)), api.ErrNone)
	p.alike(p.group(below(99, 50)), api.ErrNone)
	p.alike(p.group(below(99, -1)), api.ErrNone)
	p.alike(p.group(below(99, maxDeep)), api.ErrDeep)
	p.alike(p.group(below(50, maxDeep)), api.ErrTwice)
	must(t, p.mark(maxDeep, false), p.mark(maxDeep-1, true))
	p.alike(p.group(below(99, maxDeep)), api.ErrDeep)
	p.alike(p.group(below(99, maxDeep-1)), api.ErrCold)
	must(t, p.group(below(99, maxDeep-2)), p.mark(1, true), p.mark(maxDeep-1, false))
	p.alike(p.group(below(98, maxDeep-1)), api.ErrCold)
	p.alike(p.group(below(98, 1)), api.ErrCold)
	must(t, p.group(below(98, 0)))
}

func TestFullBoard(t *testing.T) { // P17.1, P17.2: groups and tasks count together, 0 doesn't; ErrFull stands behind ErrNone, and ahead of ErrDeep and ErrCold
	p := deep(t)
	must(t, p.mark(maxDeep, true))
	for id := maxDeep + 1; id <= maxEach-2; id++ {
		if id%2 == 0 {
			must(t, p.spawn(id, 0, 1, 1))
		} else {
			must(t, p.group(below(id, 0)))
		}
	}
	must(t, p.group(below(5000, 0)), p.spawn(5001, 0, 1, 1))
	tell(t, p.group(below(5002, 0)), api.ErrFull)
	tell(t, p.group(below(5002, maxDeep)), api.ErrFull)
	tell(t, p.group(below(5002, 5003)), api.ErrNone)
	tell(t, p.group(below(5001, 0)), api.ErrTwice)
	tell(t, p.spawn(5002, 0, 1, 1), api.ErrFull)
	tell(t, p.spawn(5002, maxDeep, 1, 1), api.ErrFull)
	tell(t, p.spawn(5002, 5003, 1, 1), api.ErrNone)
	tell(t, p.spawn(5000, 0, 1, 1), api.ErrTwice)
	tell(t, p.adopt(api.TaskInfo{Id: 5002, Weight: 1, Cores: 1, State: api.Asleep}), api.ErrFull)
	p.same(20)
	must(t, p.drop(5000), p.spawn(5000, 0, 1, 1))
	tell(t, p.group(below(5002, 0)), api.ErrFull)
	must(t, p.exit(5001), p.group(below(5001, 0)))
	tell(t, p.spawn(5002, 0, 1, 1), api.ErrFull)
	must(t, p.drop(5001), p.adopt(api.TaskInfo{Id: 5001, Weight: 1, Cores: 2, State: api.Parked}))
	tell(t, p.group(below(5002, 0)), api.ErrFull)
	must(t, p.sleep(5000), p.exit(5000), p.group(below(5002, 0)))
	p.same(20)
}

func TestDrop(t *testing.T) { // P17.1: each error by itself, and ahead of those behind it
	p := newPair(t, 2)
	must(t, p.group(below(1, 0)), p.group(below(2, 1)), p.group(below(3, 1)), p.spawn(5, 2, 1, 3), p.spawn(6, 0, 1, 3))
	for _, id := range append(strange(), 0, 4, 5, 6) {
		p.alike(p.drop(id), api.ErrNone)
	}
	p.alike(p.drop(1), api.ErrBusy)
	p.alike(p.drop(2), api.ErrBusy)
	must(t, p.mark(1, true))
	p.alike(p.drop(1), api.ErrBusy)
	p.alike(p.drop(2), api.ErrBusy)
	p.alike(p.drop(3), api.ErrCold)
	must(t, p.mark(1, false), p.mark(3, true))
	p.alike(p.drop(3), api.ErrCold)
	must(t, p.mark(3, false), p.drop(3), p.sleep(5))
	p.alike(p.drop(3), api.ErrNone)
	p.alike(p.drop(2), api.ErrBusy)
	must(t, p.bind(5, 4), p.wake(5))
	p.is(5, api.Parked, -1)
	p.alike(p.drop(2), api.ErrBusy)
	must(t, p.exit(5), p.drop(2), p.drop(1))
	list(t, p.b.Under(0), 0)
	if g, is := p.b.One(1); g != (api.GroupInfo{}) || is {
		t.Errorf("%v is there", g)
	}
	p.same(10)
}

func TestLanesForgetWhatIsDropped(t *testing.T) { // P17.1: a new group of the same Id begins with no lag, on each core
	p := newPair(t, 3)
	for range 3 {
		must(t, p.group(below(1, 0)))
		for core := range 3 {
			must(t, p.spawn(10+core, 1, 1, 1<<core), p.spawn(20+core, 0, 1, 1<<core))
			// 1 is ahead then, and so 20 would come first where that is kept.
			list(t, p.ticks(core, 2), 10+core, 20+core)
			must(t, p.exit(10+core), p.exit(20+core))
		}
		must(t, p.drop(1))
		p.same(30)
	}
}

func TestLanesForgetBases(t *testing.T) { // P17.1: and its queue with the base 0: else none could be so far there
	p := newPair(t, 2)
	for core := range 2 {
		must(t, p.group(below(1, 0)), p.spawn(10, 1, 1, 1<<core))
		list(t, p.ticks(core, 2), 10, 10)
		must(t, p.exit(10))
		far := ahead(10, 1, 1, maxFar, 0)
		far.Cores = 1 << core
		must(t, p.adopt(far))
		p.is(10, api.Parked, -1)
		must(t, p.exit(10), p.drop(1), p.group(below(1, 0)), p.adopt(far))
		p.is(10, api.Ready, core)
		must(t, p.exit(10), p.drop(1))
	}
}

func TestIdsAreFreeAgain(t *testing.T) { // P17.1, P17.2: the Id of what is no more may be any one's
	p := newPair(t, 1)
	must(t, p.group(below(1, 0)), p.spawn(2, 1, 1, 1))
	p.ticks(0, 3)
	must(t, p.exit(2), p.drop(1))
	must(t, p.group(below(2, 0)), p.spawn(1, 2, 1, 1))
	list(t, p.ticks(0, 2), 1, 1)
	if n, _ := p.b.Task(1); n.Ran != 1 {
		t.Errorf("1 ran %d ticks", n.Ran)
	}
	p.same(5)
}
