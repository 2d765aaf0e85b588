package board_test

import (
	"testing"

	"diapause/api"
)

func TestSpawn(t *testing.T) { // P17.2: ready, it never ran, and isn't ahead
	p := newPair(t, 2)
	must(t, p.group(below(7, 0)), p.spawn(1, 0, 1, 3), p.spawn(maxId, 7, maxWeight, every), p.spawn(3, 7, 5, 1))
	for _, want := range []api.TaskInfo{
		{Id: 1, Group: 0, Weight: 1, Cores: 3, State: api.Ready, Core: 0},
		{Id: maxId, Group: 7, Weight: maxWeight, Cores: every, State: api.Ready, Core: 1},
		{Id: 3, Group: 7, Weight: 5, Cores: 1, State: api.Ready, Core: 0},
	} {
		if got, is := p.b.Task(want.Id); got != want || !is {
			t.Errorf("%v, %v, not %v", got, is, want)
		}
	}
	list(t, p.b.Tasks(), 1, 3, maxId)
	p.same(10)
}

func TestWhereNewTasksGo(t *testing.T) { // P17.2: to the core that has the fewest ready tasks, of those that are online and their own; of these the least one
	p := newPair(t, 4)
	for i, x := range []struct {
		cores uint64
		core  int
	}{{15, 0}, {15, 1}, {15, 2}, {15, 3}, {15, 0}, {1, 0}, {3, 1}, {3, 1}, {every, 2}, {12, 3}, {12, 2}, {every - 1, 3}, {1 << 3, 3}, {15, 0}, {1<<63 | 1, 0}, {1<<4 | 2, 1}, {1 << 4, -1}, {1 << 63, -1}} {
		must(t, p.spawn(i+1, 0, 1, x.cores))
		state := api.Ready
		if x.core < 0 {
			state = api.Parked
		}
		p.is(i+1, state, x.core)
	}
	must(t, p.sleep(1), p.sleep(5), p.exit(6))
	must(t, p.spawn(30, 0, 1, every), p.spawn(31, 0, 1, every), p.spawn(32, 0, 1, every))
	p.is(30, api.Ready, 0)
	p.is(31, api.Ready, 0)
	p.is(32, api.Ready, 2)
	p.toggle(2, false)
	must(t, p.spawn(33, 0, 1, 4), p.spawn(34, 0, 1, 6), p.spawn(35, 0, 1, every))
	p.is(33, api.Parked, -1)
	p.is(34, api.Ready, 1)
	p.same(40)
}

func TestAdopt(t *testing.T) { // P17.2: as it is: how far, how much it ran, asleep, if it was; where it was plays no part, nor whether it was parked
	p := newPair(t, 3)
	must(t, p.group(below(1, 0)))
	lag := api.Pace{V: 77, Rem: 4}
	for i, core := range append(strange(), 0, 1, 2, 3) {
		for _, state := range []int{api.Ready, api.Asleep, api.Parked} {
			x := api.TaskInfo{Id: 10 + 3*i + state, Group: 1, Weight: 5, Cores: 2, State: state, Core: core, Ran: 9 + i, Lag: lag}
			must(t, p.adopt(x))
			x.Core, x.State = 1, api.Ready
			if state == api.Asleep {
				x.Core, x.State = -1, api.Asleep
			}
			if got, is := p.b.Task(x.Id); got != x || !is {
				t.Errorf("%v, %v, not %v", got, is, x)
			}
		}
	}
	must(t, p.adopt(api.TaskInfo{Id: 5, Weight: 5, Cores: 8, State: api.Ready, Core: 1, Lag: lag, Ran: maxTicks}))
	p.is(5, api.Parked, -1)
	p.lag(5, 77, 4)
	p.same(80)
}

func TestLagsGoWhereTheyAreAdopted(t *testing.T) { // P17.2: on a core whose tasks ran a while it is as far ahead
	p := newPair(t, 1)
	must(t, p.spawn(1, 0, 1, 1))
	p.ticks(0, 50)
	must(t, p.adopt(ahead(2, 0, 3, 2*tick, 1)))
	p.lag(2, 2*tick, 1)
	list(t, p.ticks(0, 6), 1, 1, 2, 2, 2, 1)
	p.same(5)
}

func TestAdoptParksWhomNoLaneTakes(t *testing.T) { // P17.2: where Enter tells an error it is parked
	p := newPair(t, 2)
	must(t, p.spawn(1, 0, 1, 1))
	p.ticks(0, 2)
	must(t, p.adopt(ahead(2, 0, 1, maxFar, 0)))
	p.is(2, api.Ready, 1)
	must(t, p.spawn(3, 0, 1, 2), p.adopt(ahead(4, 0, 1, maxFar, 0)))
	p.is(4, api.Parked, -1)
	p.lag(4, maxFar, 0)
	must(t, p.adopt(ahead(5, 0, 1, maxFar-tick, 0)))
	p.is(5, api.Ready, 0)
	p.same(10)
}

func TestWrongTasks(t *testing.T) { // P17.2: each reason for ErrArg by itself
	p := newPair(t, 1)
	good := api.TaskInfo{Id: 3, Weight: 5, Cores: 1, State: api.Asleep, Ran: maxTicks, Lag: api.Pace{V: maxFar, Rem: 4}}
	wrong := []func(x *api.TaskInfo){
		func(x *api.TaskInfo) { x.Cores = 0 },
		func(x *api.TaskInfo) { x.Lag.V = -1 },
		func(x *api.TaskInfo) { x.Lag.V = maxFar + 1 },
		func(x *api.TaskInfo) { x.Lag.Rem = -1 },
		func(x *api.TaskInfo) { x.Lag.Rem = 5 },
		func(x *api.TaskInfo) { x.Ran = -1 },
		func(x *api.TaskInfo) { x.Ran = maxTicks + 1 },
		func(x *api.TaskInfo) { x.State = 0 },
		func(x *api.TaskInfo) { x.State = 4 },
		func(x *api.TaskInfo) { x.Weight = maxWeight + 1 },
		func(x *api.TaskInfo) { x.Weight, x.Lag.Rem = 0, 0 },
		func(x *api.TaskInfo) { x.Id = 0 },
		func(x *api.TaskInfo) { x.Id = maxId + 1 },
	}
	for _, n := range strange() {
		wrong = append(wrong, func(x *api.TaskInfo) { x.State = n })
		if n != maxId {
			wrong = append(wrong, func(x *api.TaskInfo) { x.Id = n })
			wrong = append(wrong, func(x *api.TaskInfo) { x.Weight, x.Lag.Rem = n, 0 })
		}
		if n < 0 || n > maxTicks {
			wrong = append(wrong, func(x *api.TaskInfo) { x.Ran = n })
		}
	}
	for _, spoil := range wrong {
		x := good
		spoil(&x)
		p.alike(p.adopt(x), api.ErrArg)
		x.Group = 99
		p.alike(p.adopt(x), api.ErrArg)
	}
	must(t, p.adopt(good))
	for _, n := range append(strange(), 0) {
		if n != maxId {
			p.alike(p.spawn(n, 0, 1, 1), api.ErrArg)
			p.alike(p.spawn(4, 0, n, 1), api.ErrArg)
		}
	}
	p.alike(p.spawn(4, 0, maxWeight+1, 1), api.ErrArg)
	p.alike(p.spawn(4, 0, 1, 0), api.ErrArg)
}

func TestAdoptErrorsInOrder(t *testing.T) { // P17.2, R2, R3: each error is told though those behind it apply
	p := newPair(t, 1)
	must(t, p.group(below(1, 0)), p.group(below(2, 1)), p.spawn(5, 2, 1, 1), p.mark(1, true))
	for _, id := range []int{1, 2, 5} {
		p.alike(p.spawn(id, 99, 0, 1), api.ErrArg)
		p.alike(p.spawn(id, 99, 1, 1), api.ErrTwice)
		p.alike(p.spawn(id, 1, 1, 1), api.ErrTwice)
	}
	for _, group := range append(strange(), 5, 99) {
		p.alike(p.spawn(9, group, 1, 1), api.ErrNone)
	}
	p.alike(p.spawn(9, 1, 1, 1), api.ErrCold)
	p.alike(p.spawn(9, 2, 1, 1), api.ErrCold)
	p.alike(p.adopt(api.TaskInfo{Id: 9, Group: 2, Weight: 1, Cores: 1, State: api.Asleep}), api.ErrCold)
	must(t, p.spawn(9, 0, 1, 1))
	p.same(20)
}

// states is a board of two cores with the tasks 1, ready, 2, asleep, and 3, parked, in group 9, and 11, 12, 13 in group 19, so too, that are cold.
func states(t *testing.T) pair {
	t.Helper()
	p := newPair(t, 2)
	must(t, p.group(below(9, 0)), p.group(below(18, 0)), p.group(below(19, 18)))
	for _, first := range []int{0, 10} {
		must(t, p.spawn(first+1, first+9, 1, 3), p.spawn(first+2, first+9, 1, 3), p.spawn(first+3, first+9, 1, 4), p.sleep(first+2))
	}
	must(t, p.mark(18, true))
	return p
}

func TestErrorsOfTasks(t *testing.T) { // P17.3, P17.5: each error by itself, and ahead of those behind it
	p := states(t)
	for _, id := range append(strange(), 0, 4, 9, 18, 19) {
		p.alike(p.exit(id), api.ErrNone)
		p.alike(p.sleep(id), api.ErrNone)
		p.alike(p.wake(id), api.ErrNone)
		p.alike(p.bind(id, 1), api.ErrNone)
		p.alike(p.bind(id, 0), api.ErrNone)
		p.alike(p.place(id), api.ErrNone)
	}
	for _, id := range []int{11, 12, 13} {
		p.alike(p.exit(id), api.ErrCold)
		p.alike(p.sleep(id), api.ErrCold)
		p.alike(p.wake(id), api.ErrCold)
		p.alike(p.bind(id, 1), api.ErrCold)
		p.alike(p.bind(id, 0), api.ErrArg)
		p.alike(p.weigh(id, 2), api.ErrCold)
		p.alike(p.weigh(id, 0), api.ErrArg)
	}
	p.alike(p.sleep(2), api.ErrState)
	p.alike(p.sleep(3), api.ErrState)
	p.alike(p.wake(1), api.ErrState)
	p.alike(p.wake(3), api.ErrState)
	p.alike(p.place(1), api.ErrState)
	p.alike(p.place(2), api.ErrState)
	p.alike(p.place(11), api.ErrState)
	p.alike(p.place(12), api.ErrState)
	for _, id := range []int{1, 2, 3} {
		p.alike(p.bind(id, 0), api.ErrArg)
	}
}

func TestExit(t *testing.T) { // P17.3: whatever its state; it is there no more, and runs nowhere
	p := states(t)
	list(t, p.ticks(0, 1), 1)
	for _, id := range []int{1, 2, 3} {
		must(t, p.exit(id))
		if x, is := p.b.Task(id); x != (api.TaskInfo{}) || is || p.b.Cold(id) {
			t.Errorf("%v is there", x)
		}
	}
	number(t, p.b.Cur(0), 0)
	list(t, p.ticks(0, 2), 0, 0)
	list(t, p.b.Tasks(), 11, 12, 13)
	p.alike(p.exit(1), api.ErrNone)
	must(t, p.spawn(1, 9, 1, 1), p.spawn(2, 9, 1, 2), p.spawn(4, 9, 1, 1))
	p.ticks(0, 3)
	p.ticks(1, 3)
	must(t, p.exit(4))
	number(t, p.b.Cur(0), 1)
	number(t, p.b.Cur(1), 2)
	p.same(20)
}

func TestSleepAndWake(t *testing.T) { // P17.3: its lag is kept, and it is placed where there is least to do then
	p := newPair(t, 2)
	must(t, p.group(below(9, 0)), p.spawn(1, 9, 3, 3), p.spawn(2, 9, 1, 3), p.spawn(3, 0, 1, 1), p.spawn(4, 9, 1, 1))
	list(t, p.ticks(0, 4), 3, 1, 3, 4)
	p.lag(1, tick/3, 1)
	must(t, p.sleep(1))
	p.is(1, api.Asleep, -1)
	p.lag(1, tick/3, 1)
	number(t, p.b.Cur(0), 4)
	must(t, p.sleep(4))
	number(t, p.b.Cur(0), 0)
	p.ticks(0, 9)
	p.ticks(1, 9)
	p.lag(1, tick/3, 1)
	must(t, p.wake(1))
	p.is(1, api.Ready, 0)
	p.lag(1, tick/3, 1)
	must(t, p.sleep(1), p.spawn(5, 0, 1, 1), p.spawn(6, 0, 1, 1), p.wake(1))
	p.is(1, api.Ready, 1)
	p.lag(1, tick/3, 1)
	if x, _ := p.b.Task(1); x.Ran != 1 || x.Cores != 3 || x.Weight != 3 || x.Group != 9 {
		t.Errorf("%v", x)
	}
	p.toggle(0, false)
	p.toggle(1, false)
	must(t, p.wake(4))
	p.is(4, api.Parked, -1)
	p.same(20)
}

func TestBind(t *testing.T) { // P17.3: it stays where it is, if it may; else it goes elsewhere, with its lag, and runs no more
	p := newPair(t, 3)
	must(t, p.spawn(1, 0, 3, 7), p.spawn(2, 0, 1, 1), p.spawn(3, 0, 1, 2), p.spawn(4, 0, 1, 2))
	list(t, p.ticks(0, 2), 1, 2)
	must(t, p.sleep(2))
	list(t, p.ticks(0, 1), 1)
	p.lag(1, tick/3, 1)
	for _, cores := range []uint64{1, 3, 5, every, 1<<63 | 1} {
		must(t, p.bind(1, cores))
		p.is(1, api.Ready, 0)
		number(t, p.b.Cur(0), 1)
		if x, _ := p.b.Task(1); x.Cores != cores {
			t.Errorf("%b, not %b", x.Cores, cores)
		}
	}
	must(t, p.bind(1, 6))
	p.is(1, api.Ready, 2)
	p.lag(1, tick/3, 1)
	number(t, p.b.Cur(0), 0)
	must(t, p.bind(1, 8))
	p.is(1, api.Parked, -1)
	p.lag(1, tick/3, 1)
	must(t, p.bind(1, 16))
	p.is(1, api.Parked, -1)
	must(t, p.bind(1, 3))
	p.is(1, api.Ready, 0)
	must(t, p.sleep(1), p.bind(1, 2))
	p.is(1, api.Asleep, -1)
	if x, _ := p.b.Task(1); x.Cores != 2 {
		t.Errorf("%b", x.Cores)
	}
	must(t, p.wake(1))
	p.is(1, api.Ready, 1)
	p.toggle(0, false)
	must(t, p.bind(1, 1))
	p.is(1, api.Parked, -1)
	p.same(20)
}

func TestBoundOnesDoNotCount(t *testing.T) { // P17.3: it is taken off ahead of being placed: where it was plays no part
	p := newPair(t, 3)
	must(t, p.spawn(1, 0, 1, 1), p.spawn(2, 0, 1, 2), p.spawn(3, 0, 1, 4), p.bind(1, 6))
	p.is(1, api.Ready, 1)
	must(t, p.bind(1, 4), p.bind(1, 3))
	p.is(1, api.Ready, 0)
	p.same(5)
}

func TestWeighTask(t *testing.T) { // P17.3: whatever its state, it has the weight, and Rem by that
	p := newPair(t, 2)
	must(t, p.adopt(ahead(1, 0, 10, 5, 9)), p.adopt(ahead(2, 0, 10, 5, 9)), p.adopt(ahead(3, 0, 10, 5, 9)), p.sleep(2), p.bind(3, 4))
	for _, x := range []struct{ weight, rem int }{{5, 4}, {maxWeight, 4 * maxWeight / 5}, {1, 0}, {7, 0}} {
		for id := 1; id <= 3; id++ {
			must(t, p.weigh(id, x.weight))
			p.lag(id, 5, x.rem)
			if y, _ := p.b.Task(id); y.Weight != x.weight {
				t.Errorf("%d weighs %d", id, y.Weight)
			}
		}
	}
	for _, weight := range append(strange(), 0, maxWeight+1) {
		if weight == maxId {
			continue
		}
		for id := 1; id <= 3; id++ {
			p.alike(p.weigh(id, weight), api.ErrArg)
		}
		p.alike(p.weigh(9, weight), api.ErrNone)
	}
	must(t, p.wake(2), p.bind(3, 1))
	p.lag(2, 5, 0)
	p.lag(3, 5, 0)
	for _, id := range append(strange(), 0, 9) {
		p.alike(p.weigh(id, 1), api.ErrNone)
	}
}

func TestWeighedAcrossStates(t *testing.T) { // P17.3: the lag that counts is the lane's while it is ready, and the kept one while it isn't
	p := newPair(t, 1)
	must(t, p.spawn(1, 0, 7, 1), p.spawn(2, 0, 1, 1))
	list(t, p.ticks(0, 2), 1, 2)
	p.lag(1, tick/7, tick%7)
	must(t, p.weigh(1, 700))
	p.lag(1, tick/7, tick%7*100)
	must(t, p.sleep(1))
	p.lag(1, tick/7, tick%7*100)
	must(t, p.weigh(1, 300))
	p.lag(1, tick/7, tick%7*100*300/700)
	must(t, p.wake(1), p.weigh(1, 1))
	p.lag(1, tick/7, 0)
	list(t, p.ticks(0, 3), 1, 2, 1)
	p.same(5)
}

func TestWeighGroup(t *testing.T) { // P17.3: in all lanes in which it is, and in those in which it comes to be
	p := newPair(t, 3)
	must(t, p.group(heavy(1, 0, 1)), p.group(heavy(2, 1, 5)), p.spawn(11, 1, 1, 1), p.spawn(12, 2, 1, 2), p.spawn(21, 0, 1, 1), p.spawn(22, 0, 1, 2), p.spawn(23, 0, 1, 4))
	must(t, p.weigh(1, 3), p.weigh(2, maxWeight))
	if g, _ := p.b.One(1); g != heavy(1, 0, 3) {
		t.Errorf("%v", g)
	}
	for core := range 2 {
		many := map[int]int{}
		for _, id := range p.ticks(core, 4000) {
			many[id]++
		}
		number(t, many[11+core], 3000)
		number(t, many[21+core], 1000)
	}
	must(t, p.spawn(13, 2, 1, 4))
	many := map[int]int{}
	for _, id := range p.ticks(2, 4000) {
		many[id]++
	}
	number(t, many[13], 3000)
	must(t, p.weigh(1, 1))
	many = map[int]int{}
	for _, id := range p.ticks(2, 4000) {
		many[id]++
	}
	number(t, many[13], 2000)
	for _, weight := range append(strange(), 0, maxWeight+1) {
		if weight != maxId {
			p.alike(p.weigh(1, weight), api.ErrArg)
		}
	}
	must(t, p.mark(1, true))
	p.alike(p.weigh(1, 5), api.ErrCold)
	p.alike(p.weigh(2, 5), api.ErrCold)
	p.alike(p.weigh(1, 0), api.ErrArg)
}

func TestMark(t *testing.T) { // P17.3
	p := newPair(t, 1)
	must(t, p.group(below(1, 0)), p.group(below(2, 1)), p.group(below(3, 0)), p.spawn(5, 2, 1, 1), p.spawn(6, 3, 1, 1))
	for _, is := range []bool{true, false} {
		for _, id := range append(strange(), 0, 5, 6, 9) {
			p.alike(p.mark(id, is), api.ErrNone)
		}
	}
	p.alike(p.mark(1, false), api.ErrState)
	cold := func(ids ...int) {
		t.Helper()
		for id := range 10 {
			want := false
			for _, x := range ids {
				want = want || x == id
			}
			if p.b.Cold(id) != want {
				t.Errorf("Cold(%d) = %v", id, !want)
			}
		}
		p.same(10)
	}
	cold()
	must(t, p.mark(1, true))
	cold(1, 2, 5)
	p.alike(p.mark(1, true), api.ErrState)
	must(t, p.mark(2, true))
	cold(1, 2, 5)
	must(t, p.mark(1, false))
	cold(2, 5)
	if g, _ := p.b.One(1); g.Mark {
		t.Error("1 is marked")
	}
	if g, _ := p.b.One(2); !g.Mark {
		t.Error("2 isn't marked")
	}
	p.alike(p.mark(1, false), api.ErrState)
	must(t, p.mark(2, false), p.mark(3, true))
	cold(3, 6)
}

func TestLagsOfGroupsStayOnTheirCores(t *testing.T) { // P17.2, P17.3: a group whose tasks leave a core, and come back, is as far ahead there as it was
	p := newPair(t, 2)
	must(t, p.group(below(1, 0)), p.spawn(11, 1, 1, 1), p.spawn(21, 0, 1, 1), p.spawn(22, 0, 1, 2))
	list(t, p.ticks(0, 2), 11, 21)
	must(t, p.bind(11, 2))
	list(t, p.ticks(1, 2), 11, 22)
	must(t, p.bind(11, 1))
	list(t, p.ticks(0, 2), 11, 21)
}
