package board_test

import (
	"testing"

	"diapause/api"
)

// shares is how often each task is picked by some ticks of a core.
func (p pair) shares(core, many int) map[int]int {
	p.t.Helper()
	l := map[int]int{}
	for _, id := range p.ticks(core, many) {
		l[id]++
	}
	return l
}

func TestTickErrors(t *testing.T) { // P17.4, R3: nobody is told, and nobody runs
	p := newPair(t, 3)
	must(t, p.spawn(1, 0, 1, 7), p.spawn(2, 0, 1, 7))
	p.ticks(0, 1)
	p.toggle(2, false)
	for _, core := range append(strange(), 3, maxCores-1, maxCores) {
		id, e := p.tick(core)
		number(t, id, 0)
		p.alike(e, api.ErrArg)
	}
	id, e := p.tick(2)
	number(t, id, 0)
	p.alike(e, api.ErrOff)
	if x, _ := p.b.Task(1); x.Ran != 0 {
		t.Errorf("%v", x)
	}
}

func TestWhoRunsIsWhoWasPicked(t *testing.T) { // P17.4: at its next tick, and on its core alone
	p := newPair(t, 2)
	must(t, p.spawn(1, 0, 1, 1), p.spawn(2, 0, 1, 1), p.spawn(3, 0, 4, 2))
	ran := func(want ...int) {
		t.Helper()
		for i, many := range want {
			if x, _ := p.b.Task(i + 1); x.Ran != many {
				t.Errorf("%v ran not %d", x, many)
			}
		}
	}
	list(t, p.ticks(0, 1), 1)
	ran(0, 0, 0)
	p.lag(1, 0, 0)
	list(t, p.ticks(0, 1), 2)
	ran(1, 0, 0)
	p.lag(1, tick, 0)
	list(t, p.ticks(1, 3), 3, 3, 3)
	ran(1, 0, 2)
	must(t, p.sleep(2))
	list(t, p.ticks(0, 1), 1)
	ran(1, 0, 2)
	p.lag(1, tick, 0)
	must(t, p.wake(2))
	p.is(2, api.Ready, 0)
	list(t, p.ticks(0, 2), 2, 2)
	ran(2, 1, 2)
	must(t, p.exit(1), p.exit(2))
	list(t, p.ticks(0, 2), 0, 0)
	ran(0, 0, 2)
	p.same(5)
}

func TestSharesGoByWeights(t *testing.T) { // P17.4: the whole's examples 1 to 3
	p := newPair(t, 1)
	must(t, p.spawn(1, 0, 1, 1), p.spawn(2, 0, 1, 1))
	list(t, p.ticks(0, 4), 1, 2, 1, 2)
	p = newPair(t, 1)
	must(t, p.spawn(1, 0, 1, 1), p.spawn(2, 0, 2, 1))
	l := p.shares(0, 3000)
	number(t, l[1], 1000)
	number(t, l[2], 2000)
	p = newPair(t, 1)
	must(t, p.group(below(5, 0)), p.spawn(1, 5, 1, 1), p.spawn(2, 5, 1, 1), p.spawn(3, 5, 1, 1), p.spawn(6, 0, 1, 1))
	l = p.shares(0, 3000)
	number(t, l[1], 500)
	number(t, l[2], 500)
	number(t, l[3], 500)
	number(t, l[6], 1500)
}

func TestQuotas(t *testing.T) { // P17.4: the whole's example 4
	p := newPair(t, 1)
	must(t, p.group(limited(5, 0, 10, 2)), p.spawn(1, 5, 1, 1), p.spawn(6, 0, 1, 1))
	list(t, p.ticks(0, 7), 1, 6, 1, 6, 6, 6, 6)
	p.used(5, 2)
	must(t, p.pass(9))
	list(t, p.ticks(0, 2), 6, 6)
	must(t, p.pass(1))
	p.used(5, 0)
	list(t, p.ticks(0, 7), 1, 1, 6, 6, 6, 6, 6)
	p.used(5, 2)
}

func TestQuotasAbove(t *testing.T) { // P17.4: the bands of its group, and of those above it, are charged; whatever is below one that is shut isn't picked
	p := newPair(t, 1)
	must(t, p.group(limited(1, 0, 100, 3)), p.group(limited(2, 1, 100, 9)), p.group(limited(3, 2, 100, 9)), p.group(limited(4, 1, 100, 1)), p.group(limited(5, 0, 100, 9)))
	must(t, p.spawn(30, 3, 1, 1), p.spawn(40, 4, 1, 1), p.spawn(50, 5, 1, 1))
	list(t, p.ticks(0, 3), 30, 50, 40)
	must(t, p.exit(50))
	list(t, p.ticks(0, 4), 30, 0, 0, 0)
	for id, used := range []int{1: 3, 2: 2, 3: 2, 4: 1, 5: 1} {
		if id > 0 {
			p.used(id, used)
		}
	}
	must(t, p.move(2, 5))
	list(t, p.ticks(0, 3), 30, 30, 30)
	p.used(1, 3)
	p.used(5, 3)
	must(t, p.spawn(60, 1, 1, 1), p.exit(30))
	list(t, p.ticks(0, 2), 0, 0)
	must(t, p.pass(100))
	list(t, p.ticks(0, 2), 40, 60)
}

func TestNoLimit(t *testing.T) { // P17.4: where there is no quota none is used
	p := newPair(t, 1)
	must(t, p.group(limited(1, 0, 10, 0)), p.group(limited(2, 1, 0, 0)), p.spawn(5, 2, 1, 1))
	p.ticks(0, 50)
	p.used(1, 0)
	p.used(2, 0)
	must(t, p.pass(10), p.pass(7))
	p.same(5)
}

func TestATickForEachCoreMore(t *testing.T) { // P17.4: who runs when the quota is used up runs on to its tick
	p := newPair(t, 4)
	must(t, p.group(limited(1, 0, 10, 3)))
	for core := range 4 {
		must(t, p.spawn(10+core, 1, 1, 1<<core), p.spawn(20+core, 0, 1, 1<<core))
		list(t, p.ticks(core, 1), 10+core)
	}
	for core := range 4 {
		list(t, p.ticks(core, 2), 20+core, []int{10 + core, 10 + core, 20 + core, 20 + core}[core])
	}
	p.used(1, 4)
	for core := range 4 {
		list(t, p.ticks(core, 3), 20+core, 20+core, 20+core)
	}
	p.used(1, 6)
	must(t, p.pass(10))
	for core := range 4 {
		list(t, p.ticks(core, 1), 10+core)
	}
}

func TestColdOnesAreNotPicked(t *testing.T) { // P17.4: the groups that are marked are shut; who runs in one runs on to its tick
	p := newPair(t, 2)
	must(t, p.group(below(1, 0)), p.group(limited(2, 1, 10, 9)), p.spawn(20, 2, 1, 1), p.spawn(30, 0, 1, 1), p.spawn(21, 2, 1, 2))
	list(t, p.ticks(0, 1), 20)
	list(t, p.ticks(1, 1), 21)
	must(t, p.mark(1, true))
	number(t, p.b.Cur(0), 20)
	list(t, p.ticks(0, 3), 30, 30, 30)
	list(t, p.ticks(1, 3), 0, 0, 0)
	p.used(2, 2)
	if x, _ := p.b.Task(20); x.Ran != 1 || x.Lag.V != 0 {
		t.Errorf("%v", x)
	}
	must(t, p.mark(2, true), p.mark(1, false))
	list(t, p.ticks(0, 2), 30, 30)
	list(t, p.ticks(1, 1), 0)
	must(t, p.mark(2, false))
	list(t, p.ticks(0, 5), 20, 20, 20, 20, 20)
	list(t, p.ticks(1, 1), 21)
	p.same(40)
}

func TestWhoIsAsFarAsCanBeHadItsTick(t *testing.T) { // P17.4: an error of Run plays no part: it ran a tick more, and the bands are charged
	p := newPair(t, 1)
	must(t, p.group(limited(1, 0, 10, 9)), p.adopt(ahead(5, 1, 1, maxFar-tick, 0)))
	list(t, p.ticks(0, 6), 5, 5, 5, 5, 5, 5)
	if x, _ := p.b.Task(5); x.Ran != 5 || x.Lag != (api.Pace{}) {
		t.Errorf("%v", x)
	}
	p.used(1, 5)
	must(t, p.sleep(5), p.wake(5))
	p.lag(5, 0, 0)
}

func TestRanEnds(t *testing.T) { // P17.4: MaxTicks at most
	p := newPair(t, 1)
	x := ahead(5, 0, 1, 0, 0)
	x.Ran = maxTicks - 2
	must(t, p.adopt(x))
	for _, want := range []int{maxTicks - 2, maxTicks - 1, maxTicks, maxTicks, maxTicks} {
		p.ticks(0, 1)
		if x, _ := p.b.Task(5); x.Ran != want {
			t.Errorf("%v, not %d", x, want)
		}
	}
	p.lag(5, 0, 0)
	must(t, p.spawn(6, 0, 1, 1))
	list(t, p.ticks(0, 2), 6, 5)
}

func TestUsedEnds(t *testing.T) { // P17.4: a band has MaxTicks at most
	p := newPair(t, 1)
	g := limited(1, 0, 1, maxPeriod)
	must(t, p.group(g), p.spawn(5, 1, 1, 1))
	g.Id, g.Band.Used = 2, maxTicks
	must(t, p.group(g))
	list(t, p.ticks(0, 1), 5)
	must(t, p.move(1, 2))
	list(t, p.ticks(0, 1), 0)
	p.used(2, maxTicks)
	p.used(1, 1)
}

func TestPassErrors(t *testing.T) { // P17.4, R3
	p := newPair(t, 1)
	must(t, p.group(api.GroupInfo{Id: 1, Weight: 1, Band: api.Band{Period: 1, Quota: 5, Used: 3}}))
	for _, n := range append(strange(), maxTicks+1) {
		if n < 0 || n > maxTicks {
			p.alike(p.pass(n), api.ErrArg)
			p.used(1, 3)
		}
	}
	must(t, p.pass(0))
	p.used(1, 3)
	must(t, p.pass(5))
	p.used(1, 0)
	p.alike(p.pass(maxTicks+1), api.ErrArg)
	p.alike(p.pass(maxTicks), api.ErrRange)
	p.alike(p.pass(maxTicks-4), api.ErrRange)
	must(t, p.pass(maxTicks-5), p.pass(0))
	number(t, p.b.Now(), maxTicks)
	p.alike(p.pass(1), api.ErrRange)
	p.alike(p.pass(maxTicks), api.ErrRange)
	p.alike(p.pass(maxTicks+1), api.ErrArg)
	p.alike(p.pass(-1), api.ErrArg)
	p = newPair(t, 1)
	must(t, p.pass(maxTicks))
	number(t, p.b.Now(), maxTicks)
}

func TestPass(t *testing.T) { // P17.4: each group's band, by the board's own time
	for _, step := range []int{1, 2, 3, 5, 7, 12, 40, maxPeriod, 3*maxPeriod + 1} {
		p := newPair(t, 1)
		for id, period := range []int{1: 1, 2: 2, 3: 3, 4: 10, 5: 12, 6: maxPeriod} {
			if id > 0 {
				must(t, p.group(api.GroupInfo{Id: id, Parent: id / 2, Weight: 1, Band: api.Band{Period: period, Quota: 2}}))
				must(t, p.spawn(10+id, id, 1, 1))
			}
		}
		must(t, p.mark(5, true), p.mark(3, true))
		for range 30 {
			must(t, p.pass(step))
			p.ticks(0, 2)
		}
		number(t, p.b.Now(), 30*step)
		p.same(20)
	}
}

func TestTimeGoesByPassAlone(t *testing.T) { // P17.4
	p := newPair(t, 1)
	must(t, p.group(limited(1, 0, 1, 1)), p.spawn(5, 1, 1, 1))
	list(t, p.ticks(0, 4), 5, 0, 0, 0)
	number(t, p.b.Now(), 0)
	must(t, p.pass(1))
	number(t, p.b.Now(), 1)
	list(t, p.ticks(0, 4), 5, 0, 0, 0)
	p.used(1, 1)
}
