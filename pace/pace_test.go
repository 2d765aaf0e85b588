package pace_test

import (
	"math"
	"math/big"
	"slices"
	"testing"

	"diapause/api"
	"diapause/pace"
)

const (
	scale     = 1 << 20
	maxWeight = 1 << 20
	maxTicks  = 1 << 40
	maxFar    = 1 << 61
)

// chance is numbers without a pattern, the same ones each time.
type chance uint64

func (c *chance) next() uint64 {
	*c = *c*6364136223846793005 + 1442695040888963407
	return uint64(*c) ^ uint64(*c)>>29
}

// upTo is a number from 0 to most; small ones are as frequent as great ones.
func (c *chance) upTo(most int) int {
	return int(c.next()>>(c.next()%64)) & math.MaxInt % (most + 1)
}

// rightWeights are weights as they are.
func rightWeights() []int {
	l := []int{1, 2, 3, 4, 5, 7, 10, 127, 1000, 1023, 1024, 1025, 65535, 65537, 1<<19 - 1, 1 << 19, 1<<19 + 1, 699051, maxWeight - 2, maxWeight - 1, maxWeight}
	c := chance(1)
	for range 40 {
		l = append(l, 1+c.upTo(maxWeight-1))
	}
	return l
}

// wrongNumbers are below what is held and above it, and such as are right if only their low bits are looked at.
func wrongNumbers() []int {
	return []int{math.MinInt, math.MinInt + 1, math.MinInt + 3, math.MinInt32, -maxTicks, -maxWeight - 1, -maxWeight, -3, -2, -1, 0, 1<<32 + 3, 1<<48 + 3, maxFar, math.MaxInt - 1, math.MaxInt}
}

func anyWeights() []int {
	return append(append(rightWeights(), wrongNumbers()...), maxWeight+1, 2*maxWeight, 1<<31, 1<<32)
}

func anyTicks() []int {
	l := append(wrongNumbers(), 1, 2, 3, 4, 1000, maxWeight, 1<<31, 1<<32, maxTicks-1, maxTicks, maxTicks+1, 2*maxTicks)
	c := chance(2)
	for range 20 {
		l = append(l, c.upTo(maxTicks))
	}
	return l
}

// held is a number that lies from least to most.
func held(n, least, most int) int {
	switch {
	case n < least:
		return least
	case n > most:
		return most
	}
	return n
}

func heldWeight(weight int) int {
	return held(weight, 1, maxWeight)
}

// paces are some that can be by a weight, with the edges of both numbers.
func paces(weight int, far int) []api.Pace {
	c := chance(weight)
	var l []api.Pace
	for _, v := range []int{0, 1, 7, scale, far / 2, far - 1, far, c.upTo(far), c.upTo(far)} {
		for _, rem := range []int{0, 1, weight / 2, weight - 2, weight - 1, c.upTo(weight - 1)} {
			l = append(l, api.Pace{V: held(v, 0, far), Rem: held(rem, 0, weight-1)})
		}
	}
	return l
}

// sum is a times b, and c, without any bound.
func sum(a, b, c int) *big.Int {
	s := new(big.Int).Mul(big.NewInt(int64(a)), big.NewInt(int64(b)))
	return s.Add(s, big.NewInt(int64(c)))
}

func TestRight(t *testing.T) { // P4.1
	for _, weight := range anyWeights() {
		most := heldWeight(weight) - 1
		vs := []int{math.MinInt, -maxFar, -2, -1, 0, 1, scale, maxFar - 1, maxFar, maxFar + 1, 2 * maxFar, math.MaxInt}
		rems := []int{math.MinInt, -maxWeight, -most, -1, 0, 1, most - 1, most, most + 1, most + 2, 2*most + 1, maxWeight - 1, maxWeight, 1 << 32, math.MaxInt}
		for _, v := range vs {
			for _, rem := range rems {
				want := slices.Contains([]int{0, 1, scale, maxFar - 1, maxFar}, v) && held(rem, 0, most) == rem
				if got := pace.Right(api.Pace{V: v, Rem: rem}, weight); got != want {
					t.Fatalf("Right({%d %d}, %d) = %v", v, rem, weight, got)
				}
			}
		}
	}
}

func TestRunExamples(t *testing.T) { // P4.1
	for _, x := range []struct {
		p             api.Pace
		weight, ticks int
		want          api.Pace
	}{
		{api.Pace{}, 3, 1, api.Pace{V: 349525, Rem: 1}},
		{api.Pace{}, 3, 2, api.Pace{V: 699050, Rem: 2}},
		{api.Pace{}, 3, 3, api.Pace{V: 1048576}},
		{api.Pace{V: 349525, Rem: 1}, 3, 2, api.Pace{V: 1048576}},
		{api.Pace{}, 1, 1, api.Pace{V: scale}},
		{api.Pace{}, 2, 1, api.Pace{V: scale / 2}},
		{api.Pace{V: 9, Rem: 1}, 2, 1, api.Pace{V: 9 + scale/2, Rem: 1}},
		{api.Pace{V: 9}, maxWeight, 1, api.Pace{V: 10}},
		{api.Pace{V: 9}, maxWeight - 1, 1, api.Pace{V: 10, Rem: 1}},
		{api.Pace{V: 9, Rem: maxWeight - 2}, maxWeight - 1, 1, api.Pace{V: 11}},
		{api.Pace{V: 9, Rem: 4}, 5, 0, api.Pace{V: 9, Rem: 4}},
		{api.Pace{}, 1, maxTicks, api.Pace{V: 1 << 60}},
		{api.Pace{}, maxWeight, maxTicks, api.Pace{V: maxTicks}},
		{api.Pace{V: maxFar}, 1, maxTicks, api.Pace{V: 3 << 60}},
		{api.Pace{V: 9, Rem: 4}, 5, -1, api.Pace{V: 9, Rem: 4}},
		{api.Pace{V: 9, Rem: 4}, 5, math.MinInt, api.Pace{V: 9, Rem: 4}},
		{api.Pace{V: 9}, 1, maxTicks + 1, api.Pace{V: 9 + 1<<60}},
		{api.Pace{V: 9}, 1, math.MaxInt, api.Pace{V: 9 + 1<<60}},
		{api.Pace{V: 9}, 0, 1, api.Pace{V: 9 + scale}},
		{api.Pace{V: 9}, math.MinInt, 1, api.Pace{V: 9 + scale}},
		{api.Pace{V: 9}, maxWeight + 1, 1, api.Pace{V: 10}},
		{api.Pace{V: 9}, math.MaxInt, 1, api.Pace{V: 10}},
	} {
		if got := pace.Run(x.p, x.weight, x.ticks); got != x.want {
			t.Errorf("Run(%v, %d, %d) = %v, not %v", x.p, x.weight, x.ticks, got, x.want)
		}
	}
}

func TestRunOfAnyWeightAndTicks(t *testing.T) { // P4.1
	for _, weight := range anyWeights() {
		w := heldWeight(weight)
		for _, p := range paces(w, maxFar) {
			for _, ticks := range anyTicks() {
				got := pace.Run(p, weight, ticks)
				// Nothing is lost: what V is more by, times the weight, and what is left over, are all that was to be gone.
				went, all := sum(w, got.V-p.V, got.Rem), sum(scale, held(ticks, 0, maxTicks), p.Rem)
				if went.Cmp(all) != 0 || got.Rem < 0 || got.Rem >= w || got.V < p.V {
					t.Fatalf("Run(%v, %d, %d) = %v", p, weight, ticks, got)
				}
			}
		}
	}
}

func TestDoneOfAnyPace(t *testing.T) { // P4.2
	for _, weight := range anyWeights() {
		w := heldWeight(weight)
		for _, p := range paces(w, maxFar/w) {
			got, all := pace.Done(p, weight), sum(w, p.V, p.Rem)
			if sum(scale, got, 0).Cmp(all) > 0 || sum(scale, got, scale).Cmp(all) <= 0 {
				t.Fatalf("Done(%v, %d) = %d", p, weight, got)
			}
		}
	}
}

func TestDoneIsTheTicks(t *testing.T) { // P4.2
	for _, weight := range anyWeights() {
		for _, ticks := range anyTicks() {
			want := held(ticks, 0, maxTicks)
			p := pace.Run(api.Pace{}, weight, ticks)
			if got := pace.Done(p, weight); got != want {
				t.Fatalf("Done(%v, %d) = %d, not %d", p, weight, got, want)
			}
			// A part of a tick is none: with one less left over the last tick is not whole.
			if p.Rem > 0 && want > 0 {
				p.Rem--
				if got := pace.Done(p, weight); got != want-1 {
					t.Fatalf("Done(%v, %d) = %d, not %d", p, weight, got, want-1)
				}
			}
		}
	}
}

func TestDoneExamples(t *testing.T) { // P4.2
	for _, x := range []struct {
		p            api.Pace
		weight, want int
	}{
		{api.Pace{}, 1, 0}, {api.Pace{V: scale - 1}, 1, 0}, {api.Pace{V: scale}, 1, 1},
		{api.Pace{V: 349525}, 3, 0}, {api.Pace{V: 349525, Rem: 1}, 3, 1}, {api.Pace{V: 699050, Rem: 1}, 3, 1}, {api.Pace{V: 699050, Rem: 2}, 3, 2},
		{api.Pace{V: maxFar}, 1, 1 << 41}, {api.Pace{V: maxFar / maxWeight}, maxWeight, 1 << 41}, {api.Pace{V: maxFar/maxWeight - 1, Rem: maxWeight - 1}, maxWeight, 1<<41 - 1},
		{api.Pace{V: scale}, 0, 1}, {api.Pace{V: scale}, math.MinInt, 1}, {api.Pace{V: 5}, maxWeight + 1, 5}, {api.Pace{V: 5}, math.MaxInt, 5},
	} {
		if got := pace.Done(x.p, x.weight); got != x.want {
			t.Errorf("Done(%v, %d) = %d, not %d", x.p, x.weight, got, x.want)
		}
	}
}

func TestReweighExamples(t *testing.T) { // P4.2
	for _, x := range []struct {
		p        api.Pace
		from, to int
		want     int
	}{
		{api.Pace{V: 5, Rem: 2}, 3, 9, 6}, {api.Pace{V: 5, Rem: 8}, 9, 2, 1}, {api.Pace{V: 5, Rem: 4}, 9, 2, 0}, {api.Pace{V: 5, Rem: 5}, 9, 2, 1},
		{api.Pace{V: 5, Rem: 2}, 3, 3, 2}, {api.Pace{V: 5, Rem: 2}, 3, 1, 0}, {api.Pace{V: 5}, 3, maxWeight, 0}, {api.Pace{V: 5}, 1, maxWeight, 0},
		{api.Pace{V: maxFar, Rem: maxWeight - 1}, maxWeight, 1, 0}, {api.Pace{V: maxFar, Rem: maxWeight - 1}, maxWeight, maxWeight, maxWeight - 1},
		{api.Pace{V: 5, Rem: 1}, 2, maxWeight, maxWeight / 2}, {api.Pace{V: 5, Rem: maxWeight / 2}, maxWeight, 2, 1},
		{api.Pace{V: 5, Rem: 1}, 2, maxWeight + 2, maxWeight / 2}, {api.Pace{V: 5, Rem: 1}, 2, math.MaxInt, maxWeight / 2},
		{api.Pace{V: 5, Rem: maxWeight / 2}, math.MaxInt, 2, 1}, {api.Pace{V: 5, Rem: 1}, 2, -7, 0}, {api.Pace{V: 5}, 0, 0, 0}, {api.Pace{V: 5}, math.MinInt, 9, 0},
	} {
		if got := pace.Reweigh(x.p, x.from, x.to); got != (api.Pace{V: x.p.V, Rem: x.want}) {
			t.Errorf("Reweigh(%v, %d, %d) = %v, not Rem %d", x.p, x.from, x.to, got, x.want)
		}
	}
}

func TestReweighOfAnyWeights(t *testing.T) { // P4.2
	for _, from := range anyWeights() {
		for _, to := range anyWeights() {
			f, w := heldWeight(from), heldWeight(to)
			for _, p := range paces(f, maxFar) {
				got := pace.Reweigh(p, from, to)
				share := sum(p.Rem, w, 0)
				if got.V != p.V || sum(got.Rem, f, 0).Cmp(share) > 0 || sum(got.Rem, f, f).Cmp(share) <= 0 {
					t.Fatalf("Reweigh(%v, %d, %d) = %v", p, from, to, got)
				}
				if !pace.Right(got, to) {
					t.Fatalf("Reweigh(%v, %d, %d) = %v, which can't be", p, from, to, got)
				}
			}
		}
	}
}

func TestPacesThatCannotBe(t *testing.T) { // P4.1, P4.2, R1: that the calls end, and that Right tells so
	wild := []int{math.MinInt, math.MinInt + 1, -maxFar, -maxWeight, -1, 0, 1, maxWeight, maxFar + 1, math.MaxInt - 1, math.MaxInt}
	for _, v := range wild {
		for _, rem := range wild {
			p := api.Pace{V: v, Rem: rem}
			for _, a := range wild {
				if is := v >= 0 && v <= 1<<20 && rem >= 0 && rem < heldWeight(a); pace.Right(p, a) != is {
					t.Fatalf("Right(%v, %d) = %v", p, a, !is)
				}
				pace.Done(p, a)
				for _, b := range wild {
					pace.Run(p, a, b)
					pace.Reweigh(p, a, b)
				}
			}
		}
	}
}

func TestLess(t *testing.T) { // P4.3
	// Rising: each stands ahead of all behind it, and of no other one.
	var order []api.Item
	for _, key := range []int{math.MinInt, math.MinInt + 1, -1 << 32, -2, -1, 0, 1, 2, 1 << 32, 1<<32 + 1, maxFar, math.MaxInt - 1, math.MaxInt} {
		for _, id := range []int{math.MinInt, -1 << 32, -1, 0, 1, 2, 9, 1 << 32, math.MaxInt - 1, math.MaxInt} {
			order = append(order, api.Item{Key: key, Id: id})
		}
	}
	for i, a := range order {
		for j, b := range order {
			if got := pace.Less(a, b); got != (i < j) {
				t.Fatalf("Less(%v, %v) = %v", a, b, got)
			}
		}
	}
}

func TestTicksInParts(t *testing.T) { // P4.4
	c := chance(3)
	for _, weight := range rightWeights() {
		for _, p := range paces(weight, maxFar/2) {
			all := c.upTo(maxTicks)
			part, left, many := p, all, 0
			for left > 0 && many < 9 {
				ticks := c.upTo(left)
				part = pace.Run(part, weight, ticks)
				left -= ticks
				many++
			}
			part = pace.Run(part, weight, left)
			if whole := pace.Run(p, weight, all); part != whole {
				t.Fatalf("%v by weight %d, %d ticks: %v in parts, %v at once", p, weight, all, part, whole)
			}
		}
	}
}

func TestTicksOneByOne(t *testing.T) { // P4.4
	for _, weight := range rightWeights() {
		p := api.Pace{}
		for ticks := range 3000 {
			if whole := pace.Run(api.Pace{}, weight, ticks); p != whole {
				t.Fatalf("weight %d, %d ticks: %v one by one, %v at once", weight, ticks, p, whole)
			}
			p = pace.Run(p, weight, 1)
		}
	}
}

// tooFar tells whether a is further ahead of b than a tick of its own takes it, and one.
func tooFar(a, b api.Pace, weight int) bool {
	return weight*(a.V-b.V) > scale+weight
}

func TestOfTwoNoneIsTooFarAhead(t *testing.T) { // P4.4
	for _, wa := range rightWeights() {
		for _, wb := range rightWeights() {
			for _, v := range []int{0, maxFar / 2} {
				a, b := api.Pace{V: v}, api.Pace{V: v, Rem: wb - 1}
				ranA, ranB := 0, 0
				for range 300 {
					if pace.Less(api.Item{Key: b.V, Id: 2}, api.Item{Key: a.V, Id: 1}) {
						b = pace.Run(b, wb, 1)
						ranB++
					} else {
						a = pace.Run(a, wa, 1)
						ranA++
					}
					if tooFar(a, b, wa) || tooFar(b, a, wb) {
						t.Fatalf("weights %d and %d, behind %d and %d ticks: %v, %v", wa, wb, ranA, ranB, a, b)
					}
				}
				if pace.Done(api.Pace{V: a.V - v, Rem: a.Rem}, wa) != ranA || ranA+ranB != 300 {
					t.Fatalf("weights %d and %d: %v is not %d ticks", wa, wb, a, ranA)
				}
			}
		}
	}
}
