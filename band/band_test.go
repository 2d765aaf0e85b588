package band_test

import (
	"math"
	"testing"

	"diapause/api"
	"diapause/band"
)

const (
	maxPeriod = 1 << 20
	maxTicks  = 1 << 40
)

// chance is numbers without a pattern, the same ones each time.
type chance uint64

func (c *chance) next() uint64 {
	*c = *c*6364136223846793005 + 1442695040888963407
	return uint64(*c) ^ uint64(*c)>>29
}

// upTo is a number from 0 to most; small ones are as frequent as great ones.
func (c *chance) upTo(most int) int {
	return int(c.next()>>(c.next()%64)) & math.MaxInt % (most + 1)
}

// held is a number that lies from 0 to MaxTicks.
func held(n int) int {
	switch {
	case n < 0:
		return 0
	case n > maxTicks:
		return maxTicks
	}
	return n
}

// wild are numbers outside all that is held, and such as are right if only their low bits are looked at.
func wild() []int {
	return []int{math.MinInt, math.MinInt + 1, math.MinInt + 3, -1 << 40, -1<<32 + 3, -1 << 20, -3, -2, -1, maxTicks + 1, maxTicks + 3, 1<<41 + 7, 1<<48 + 3, 1 << 61, math.MaxInt - 1, math.MaxInt}
}

// edges are numbers within MaxTicks, each limit with those beside it.
func edges() []int {
	return []int{0, 1, 2, 3, 7, 9, 10, 11, 1000, maxPeriod - 1, maxPeriod, maxPeriod + 1, 1<<32 - 1, 1 << 32, 1<<32 + 3, maxTicks - 1, maxTicks}
}

func anyNumbers() []int { return append(edges(), wild()...) }

// canBe tells whether there is such a band, in the chapter's words.
func canBe(b api.Band) bool {
	switch {
	case b.Period < 0 || b.Period > maxPeriod:
		return false
	case b.Quota < 0 || b.Quota > maxPeriod:
		return false
	case b.Used < 0 || b.Used > maxTicks:
		return false
	case b.Quota > 0 && b.Period == 0:
		return false
	case b.Quota == 0 && b.Used > 0:
		return false
	}
	return true
}

// eachOf tells all bands of some numbers.
func eachOf(numbers []int, do func(b api.Band)) {
	for _, period := range numbers {
		for _, quota := range numbers {
			for _, used := range numbers {
				do(api.Band{Period: period, Quota: quota, Used: used})
			}
		}
	}
}

// rightBands are bands that can be: all of the edges, and some within.
func rightBands() []api.Band {
	var l []api.Band
	eachOf(edges(), func(b api.Band) {
		if canBe(b) {
			l = append(l, b)
		}
	})
	c := chance(1)
	for range 300 {
		b := api.Band{Period: 1 + c.upTo(maxPeriod-1), Quota: 1 + c.upTo(maxPeriod-1), Used: c.upTo(maxTicks)}
		l = append(l, b, api.Band{Period: b.Period, Quota: b.Quota, Used: b.Quota}, api.Band{Period: b.Period, Quota: b.Quota, Used: b.Quota - 1}, api.Band{Period: b.Period})
	}
	return l
}

func TestRightExamples(t *testing.T) { // P8.1
	for _, x := range []struct {
		b    api.Band
		want bool
	}{
		{api.Band{}, true}, {api.Band{Period: 1}, true}, {api.Band{Period: maxPeriod}, true}, {api.Band{Period: maxPeriod + 1}, false}, {api.Band{Period: -1}, false},
		{api.Band{Period: 1, Quota: 1}, true}, {api.Band{Period: 1, Quota: maxPeriod}, true}, {api.Band{Period: 1, Quota: maxPeriod + 1}, false}, {api.Band{Period: 1, Quota: -1}, false},
		{api.Band{Quota: 1}, false}, {api.Band{Quota: maxPeriod}, false}, {api.Band{Used: 1}, false}, {api.Band{Period: 1, Used: 1}, false}, {api.Band{Period: 1, Used: -1}, false},
		{api.Band{Period: 10, Quota: 3, Used: 4}, true}, {api.Band{Period: 10, Quota: 11}, true}, {api.Band{Period: 1, Quota: 1, Used: maxTicks}, true},
		{api.Band{Period: 1, Quota: 1, Used: maxTicks + 1}, false}, {api.Band{Period: 1, Quota: 1, Used: -1}, false}, {api.Band{Period: maxPeriod, Quota: maxPeriod, Used: maxTicks}, true},
	} {
		if got := band.Right(x.b); got != x.want {
			t.Errorf("Right(%v) = %v", x.b, got)
		}
	}
}

func TestRightOfAnyBand(t *testing.T) { // P8.1
	many := map[bool]int{}
	eachOf(anyNumbers(), func(b api.Band) {
		want := canBe(b)
		many[want]++
		if got := band.Right(b); got != want {
			t.Fatalf("Right(%v) = %v", b, got)
		}
	})
	if many[true] < 1000 || many[false] < 1000 {
		t.Errorf("only %v bands", many)
	}
}

func TestWithoutALimit(t *testing.T) { // P8.1
	for _, period := range []int{0, 1, 2, 10, maxPeriod - 1, maxPeriod} {
		b := api.Band{Period: period}
		if band.Shut(b) || band.Left(b) != -1 {
			t.Fatalf("%v: Shut %v, Left %d", b, band.Shut(b), band.Left(b))
		}
		for _, ticks := range anyNumbers() {
			if got := band.Charge(b, ticks); got != b {
				t.Fatalf("Charge(%v, %d) = %v", b, ticks, got)
			}
		}
	}
}

func TestShutAndLeft(t *testing.T) { // P8.1
	for _, x := range []struct {
		quota, used, left int
		shut              bool
	}{
		{3, 0, 3, false}, {3, 2, 1, false}, {3, 3, 0, true}, {3, 4, 0, true}, {1, 0, 1, false}, {1, 1, 0, true}, {3, maxTicks, 0, true},
		{maxPeriod, 0, maxPeriod, false}, {maxPeriod, maxPeriod - 1, 1, false}, {maxPeriod, maxPeriod, 0, true}, {maxPeriod, 1 << 32, 0, true}, {7, 1<<32 + 3, 0, true},
	} {
		for _, period := range []int{1, 2, 3, 10, maxPeriod} {
			b := api.Band{Period: period, Quota: x.quota, Used: x.used}
			if shut, left := band.Shut(b), band.Left(b); shut != x.shut || left != x.left {
				t.Errorf("%v: Shut %v, Left %d", b, shut, left)
			}
		}
	}
	for _, b := range rightBands() {
		shut, left := band.Shut(b), band.Left(b)
		switch {
		case b.Quota == 0:
			if shut || left != -1 {
				t.Fatalf("%v: Shut %v, Left %d", b, shut, left)
			}
		case shut != (left == 0) || left < 0 || !shut && b.Used+left != b.Quota || shut && b.Used < b.Quota:
			t.Fatalf("%v: Shut %v, Left %d", b, shut, left)
		}
	}
}

func TestChargeExamples(t *testing.T) { // P8.1
	b := api.Band{Period: 10, Quota: 3, Used: 1}
	for _, x := range []struct{ ticks, used int }{
		{0, 1}, {1, 2}, {2, 3}, {3, 4}, {maxPeriod, maxPeriod + 1}, {1 << 32, 1<<32 + 1}, {maxTicks - 2, maxTicks - 1}, {maxTicks - 1, maxTicks}, {maxTicks, maxTicks},
		{maxTicks + 1, maxTicks}, {1 << 61, maxTicks}, {math.MaxInt, maxTicks}, {-1, 1}, {-maxTicks, 1}, {math.MinInt, 1},
	} {
		if got := band.Charge(b, x.ticks); got != (api.Band{Period: 10, Quota: 3, Used: x.used}) {
			t.Errorf("Charge(%v, %d) = %v, not Used %d", b, x.ticks, got, x.used)
		}
	}
}

func TestChargeOfAnyTicks(t *testing.T) { // P8.1
	for _, b := range rightBands() {
		for _, ticks := range anyNumbers() {
			want := b
			if b.Quota > 0 {
				want.Used = held(b.Used + held(ticks))
			}
			if got := band.Charge(b, ticks); got != want || !band.Right(got) {
				t.Fatalf("Charge(%v, %d) = %v", b, ticks, got)
			}
		}
	}
}

func TestEndsExamples(t *testing.T) { // P8.2
	for _, x := range []struct{ period, now, n, want int }{
		{10, 7, 2, 0}, {10, 7, 3, 1}, {10, 7, 12, 1}, {10, 7, 13, 2}, {10, 0, 0, 0}, {10, 0, 9, 0}, {10, 0, 10, 1}, {10, 10, 0, 0}, {10, 10, 9, 0}, {10, 10, 10, 1}, {10, 9, 1, 1}, {10, 9, 0, 0},
		{1, 0, 0, 0}, {1, 0, 1, 1}, {1, 7, 1000, 1000}, {1, maxTicks, maxTicks, maxTicks}, {2, 1, 1, 1}, {2, 2, 1, 0},
		{0, 0, 5, 0}, {-1, 0, 5, 0}, {-10, 7, 3, 0}, {math.MinInt, 0, maxTicks, 0},
		{maxPeriod, 0, maxPeriod - 1, 0}, {maxPeriod, 0, maxPeriod, 1}, {maxPeriod, 1, maxPeriod - 1, 1}, {maxPeriod, 0, maxTicks, maxPeriod}, {maxPeriod, maxTicks, maxPeriod - 1, 0}, {maxPeriod, maxTicks, maxPeriod, 1},
		{maxPeriod, maxTicks - 1, 1, 1}, {3, maxTicks, maxTicks, 366503875925}, {3, maxTicks, 1, 0}, {3, maxTicks, 2, 1},
		{maxTicks, 0, maxTicks - 1, 0}, {maxTicks, 0, maxTicks, 1}, {maxTicks, maxTicks, maxTicks, 1}, {maxTicks + 1, 0, maxTicks, 0}, {maxTicks + 1, maxTicks, 1, 1}, {2 * maxTicks, maxTicks, maxTicks, 1}, {2*maxTicks + 1, maxTicks, maxTicks, 0}, {math.MaxInt, maxTicks, maxTicks, 0},
		{10, -1, 10, 1}, {10, -1, 9, 0}, {10, math.MinInt, 10, 1}, {10, 5, -1, 0}, {10, 10, -1, 0}, {10, 15, math.MinInt, 0}, {10, -5, -5, 0},
		{maxPeriod, maxTicks + 1, maxPeriod - 1, 0}, {maxPeriod, maxTicks + 1, maxPeriod, 1}, {maxPeriod, math.MaxInt, maxPeriod, 1}, {maxPeriod, 0, maxTicks + maxPeriod, maxPeriod}, {1, 5, math.MaxInt, maxTicks}, {1, math.MaxInt, math.MaxInt, maxTicks},
	} {
		if got := band.Ends(x.period, x.now, x.n); got != x.want {
			t.Errorf("Ends(%d, %d, %d) = %d, not %d", x.period, x.now, x.n, got, x.want)
		}
	}
}

func TestEndsCounted(t *testing.T) { // P8.2
	for period := -3; period <= 25; period++ {
		for _, from := range []int{0, 1 << 32, maxTicks - 60} {
			for now := from; now <= from+60; now++ {
				many := 0
				for n := range 60 {
					if n > 0 && period > 0 && (now+n)%period == 0 {
						many++
					}
					if got := band.Ends(period, now, n); got != many {
						t.Fatalf("Ends(%d, %d, %d) = %d, not %d", period, now, n, got, many)
					}
				}
			}
		}
	}
}

func TestEndsOfAnyNumbers(t *testing.T) { // P8.2
	for _, period := range anyNumbers() {
		for _, now := range anyNumbers() {
			for _, n := range anyNumbers() {
				got := band.Ends(period, now, n)
				if period < 1 {
					if got != 0 {
						t.Fatalf("Ends(%d, %d, %d) = %d", period, now, n, got)
					}
					continue
				}
				// The first multiple above now, and from there on each period one more.
				first, end := held(now)+period-held(now)%period, held(now)+held(n)
				want := 0
				if first > 0 && first <= end {
					want = 1 + (end-first)/period
				}
				if got != want {
					t.Fatalf("Ends(%d, %d, %d) = %d, not %d", period, now, n, got, want)
				}
			}
		}
	}
}

func TestPassExamples(t *testing.T) { // P8.2
	had, open := api.Band{Period: 10, Quota: 3, Used: 3}, api.Band{Period: 10, Quota: 3}
	for _, x := range []struct {
		b      api.Band
		now, n int
		want   api.Band
	}{
		{had, 7, 2, had}, {had, 7, 3, open}, {had, 7, 13, open}, {had, 10, 0, had}, {had, 10, 9, had}, {had, 10, 10, open}, {had, 0, 0, had},
		{had, 7, -3, had}, {had, -3, 9, had}, {had, -3, 10, open}, {had, math.MinInt, math.MaxInt, open}, {had, math.MaxInt, math.MinInt, had},
		{had, 1<<40 + 5, 3, had}, {had, 1<<40 + 5, 4, open}, // MaxTicks is 6 above a multiple of 10
		{open, 7, 3, open}, {open, 7, 2, open}, {api.Band{Period: 10, Quota: 3, Used: maxTicks}, 7, 3, open}, {api.Band{Period: 10, Quota: 3, Used: 1}, 7, 3, open},
		{api.Band{}, 7, 3, api.Band{}}, {api.Band{}, 0, maxTicks, api.Band{}}, {api.Band{Period: 10}, 7, 3, api.Band{Period: 10}},
		{api.Band{Period: maxPeriod, Quota: 1, Used: 1}, maxTicks - 1, 1, api.Band{Period: maxPeriod, Quota: 1}}, {api.Band{Period: 1, Quota: 1, Used: 1}, 5, 1, api.Band{Period: 1, Quota: 1}}, {api.Band{Period: 1, Quota: 1, Used: 1}, 5, 0, api.Band{Period: 1, Quota: 1, Used: 1}},
	} {
		if got := band.Pass(x.b, x.now, x.n); got != x.want {
			t.Errorf("Pass(%v, %d, %d) = %v, not %v", x.b, x.now, x.n, got, x.want)
		}
	}
	if left := band.Left(band.Pass(had, 7, 3)); left != 3 || band.Shut(band.Pass(had, 7, 3)) || !band.Shut(band.Pass(had, 7, 2)) {
		t.Errorf("%d left", left)
	}
}

func TestPassCounted(t *testing.T) { // P8.2
	for period := range 13 {
		for now := range 40 {
			ends := false
			for n := range 40 {
				ends = ends || n > 0 && period > 0 && (now+n)%period == 0
				for _, b := range []api.Band{{Period: period}, {Period: period, Quota: 1}, {Period: period, Quota: 1, Used: 1}, {Period: period, Quota: 5, Used: 3}, {Period: period, Quota: maxPeriod, Used: maxTicks}} {
					if !canBe(b) {
						continue
					}
					want := b
					if ends {
						want.Used = 0
					}
					if got := band.Pass(b, now, n); got != want {
						t.Fatalf("Pass(%v, %d, %d) = %v", b, now, n, got)
					}
				}
			}
		}
	}
}

func TestBandsThatCannotBe(t *testing.T) { // P8.1, P8.2, R1: that the calls end
	eachOf(append(wild(), 0, 1, maxPeriod+1, maxTicks), func(b api.Band) {
		band.Right(b)
		band.Shut(b)
		band.Left(b)
		for _, n := range []int{math.MinInt, -1, 0, 1, maxTicks, math.MaxInt} {
			band.Charge(b, n)
			band.Pass(b, n, n)
			band.Pass(b, n, maxTicks)
		}
	})
}

func TestTimeInParts(t *testing.T) { // P8.3
	c := chance(2)
	for _, b := range rightBands() {
		for range 4 {
			now, n := c.upTo(maxTicks), c.upTo(4*maxPeriod)
			if now+n > maxTicks {
				now -= n
			}
			whole, ends := band.Pass(b, now, n), band.Ends(b.Period, now, n)
			part, sum, at, end := b, 0, now, now+n
			for many := 0; many < 9 && at < end; many++ {
				step := c.upTo(end - at)
				part, sum, at = band.Pass(part, at, step), sum+band.Ends(b.Period, at, step), at+step
			}
			part, sum = band.Pass(part, at, end-at), sum+band.Ends(b.Period, at, end-at)
			if part != whole || sum != ends {
				t.Fatalf("%v from %d by %d: %v and %d ends in parts, %v and %d at once", b, now, n, part, sum, whole, ends)
			}
		}
	}
}

func TestChargedInParts(t *testing.T) { // P8.3
	c := chance(3)
	for _, b := range rightBands() {
		many := c.upTo(2000)
		part := b
		for range many {
			part = band.Charge(part, 1)
		}
		if whole := band.Charge(b, many); part != whole {
			t.Fatalf("%v, charged %d ticks: %v one by one, %v at once", b, many, part, whole)
		}
	}
}

func TestNeverMoreThanTheQuota(t *testing.T) { // P8.3
	c := chance(4)
	for period := 1; period <= 12; period++ {
		for quota := 1; quota <= 15; quota++ {
			b, now, had, most := api.Band{Period: period, Quota: quota}, 0, 0, 0
			for range 2000 {
				// Several ticks may be had at one time, as there are several cores.
				for range c.upTo(6) {
					if !band.Shut(b) {
						b, had = band.Charge(b, 1), had+1
					}
				}
				if left := band.Left(b); had > quota || left != quota-had {
					t.Fatalf("%v at %d: %d were had, %d are left", b, now, had, left)
				}
				most = max(most, had)
				n := c.upTo(3)
				for step := range n {
					if (now+step+1)%period == 0 {
						had = 0
					}
				}
				b, now = band.Pass(b, now, n), now+n
			}
			if most == 0 || quota <= 6 && most != quota {
				t.Fatalf("period %d, quota %d: %d were had at most", period, quota, most)
			}
		}
	}
}
