package moment_test

import (
	"math"
	"math/big"
	"slices"
	"testing"

	"diapause/moment"
)

const (
	maxWeight = 1 << 20
	maxOff    = 1 << 20
	maxBase   = 1 << 61
	maxReal   = 1 << 32
	maxImag   = 1 << 52
	maxEach   = 4096
)

// chance is numbers without a pattern, the same ones each time.
type chance uint64

func (c *chance) next() uint64 {
	*c = *c*6364136223846793005 + 1442695040888963407
	return uint64(*c) ^ uint64(*c)>>29
}

// upTo is a number from 0 to most; small ones are as frequent as great ones.
func (c *chance) upTo(most int) int {
	return int(c.next()>>(c.next()%64)) & math.MaxInt % (most + 1)
}

// around is a number from -most to most.
func (c *chance) around(most int) int {
	if c.next()%2 == 0 {
		return -c.upTo(most)
	}
	return c.upTo(most)
}

// sums is a moment in whole numbers, which are exact.
type sums struct{ base, weight, far int }

// canBe tells whether there is such a moment.
func (s sums) canBe() bool {
	return s.base >= -maxBase && s.base <= maxBase && s.weight >= 0 && s.weight <= maxReal && s.far >= -maxImag && s.far <= maxImag
}

func (s sums) moment() moment.Moment {
	return moment.Moment{Base: s.base, Sum: complex(float64(s.weight), float64(s.far))}
}

func bases() []int {
	return []int{-maxBase, 1 - maxBase, -1<<53 - 1, -7, 0, 1, 100, 1<<53 + 1, 1<<60 + 3, maxBase - 1, maxBase}
}

func offs() []int {
	l := []int{-maxOff, 1 - maxOff, -1025, -2, -1, 0, 1, 2, 3, 1000, maxOff - 1, maxOff}
	c := chance(1)
	for range 6 {
		l = append(l, c.around(maxOff))
	}
	return l
}

func weights() []int {
	l := []int{0, 1, 2, 3, 7, 1024, maxWeight - 1, maxWeight}
	c := chance(2)
	for range 6 {
		l = append(l, c.upTo(maxWeight))
	}
	return l
}

// all are sums of moments that can be, with the edges of all three numbers.
func all() []sums {
	var l []sums
	c := chance(3)
	for _, base := range bases() {
		for _, weight := range []int{0, 1, 2, 3, 4, maxWeight, maxWeight + 1, 1<<31 + 1, maxReal - maxWeight, maxReal - 1, maxReal, c.upTo(maxReal)} {
			for _, far := range []int{-maxImag, 1 - maxImag, -5, -1, 0, 1, 2, 8, maxImag - 1, maxImag, c.around(maxImag), c.around(maxImag)} {
				l = append(l, sums{base, weight, far})
			}
		}
	}
	return l
}

func TestExamples(t *testing.T) { // P5.1, P5.2
	m := moment.New(100).Add(101, 3).Add(105, 1)
	if m != (moment.Moment{Base: 100, Sum: 4 + 8i}) {
		t.Errorf("the sum is %v", m)
	}
	if m.Weight() != 4 || m.Mean() != 102 || m.Gap(101) != 4 || m.Gap(105) != -12 || m.Gap(102) != 0 {
		t.Errorf("weight %d, mean %d, gaps %d, %d, %d", m.Weight(), m.Mean(), m.Gap(101), m.Gap(105), m.Gap(102))
	}
	if n := m.Take(101, 3); n != (moment.Moment{Base: 100, Sum: 1 + 5i}) || n.Mean() != 105 {
		t.Errorf("without 101: %v", n)
	}
	if n := m.Shift(107); n != (moment.Moment{Base: 107, Sum: 4 - 20i}) || n.Mean() != 102 || n.Gap(105) != -12 {
		t.Errorf("from 107 on: %v", n)
	}
	if n := m.Join(moment.New(90).Add(99, 2)); n != (moment.Moment{Base: 100, Sum: 6 + 6i}) || n.Mean() != 101 {
		t.Errorf("with 99: %v", n)
	}
	// A mean is rounded down below the base too, not toward it.
	if n := moment.New(100).Add(99, 1).Add(100, 3); n.Mean() != 99 || n.Gap(99) != 3 || n.Gap(100) != -1 {
		t.Errorf("a quarter below 100: mean %d, gaps %d, %d", n.Mean(), n.Gap(99), n.Gap(100))
	}
}

func TestNew(t *testing.T) { // P5.1, P5.2
	for _, base := range bases() {
		m := moment.New(base)
		if m != (moment.Moment{Base: base, Sum: 0}) {
			t.Errorf("New(%d) = %v", base, m)
		}
		for _, off := range offs() {
			if m.Weight() != 0 || m.Mean() != base || m.Gap(base+off) != 0 {
				t.Errorf("New(%d): weight %d, mean %d, gap %d", base, m.Weight(), m.Mean(), m.Gap(base+off))
			}
		}
	}
}

func TestAddAndTake(t *testing.T) { // P5.1
	seen := 0
	for _, s := range all() {
		for _, off := range offs() {
			for _, weight := range weights() {
				m, v := s.moment(), s.base+off
				more := sums{s.base, s.weight + weight, s.far + weight*off}
				if got := m.Add(v, weight); more.canBe() && got != more.moment() {
					t.Fatalf("%v.Add(%d, %d) = %v, not %v", m, v, weight, got, more.moment())
				}
				less := sums{s.base, s.weight - weight, s.far - weight*off}
				if got := m.Take(v, weight); less.canBe() && got != less.moment() {
					t.Fatalf("%v.Take(%d, %d) = %v, not %v", m, v, weight, got, less.moment())
				}
				if more.canBe() && less.canBe() {
					seen++
				}
			}
		}
	}
	if seen < 50000 {
		t.Fatalf("only %d were held against sums", seen)
	}
}

func TestShift(t *testing.T) { // P5.1
	seen := 0
	for _, s := range all() {
		for _, off := range offs() {
			m := s.moment()
			want := sums{s.base + off, s.weight, s.far - s.weight*off}
			got := m.Shift(want.base)
			if !want.canBe() {
				continue
			}
			seen++
			if got != want.moment() {
				t.Fatalf("%v.Shift(%d) = %v, not %v", m, want.base, got, want.moment())
			}
			if back := got.Shift(s.base); back != m {
				t.Fatalf("%v.Shift(%d) = %v, not %v", got, s.base, back, m)
			}
		}
	}
	if seen < 5000 {
		t.Fatalf("only %d were held against sums", seen)
	}
}

func TestJoin(t *testing.T) { // P5.1
	seen := 0
	of := all()
	for i, s := range of {
		for _, off := range offs() {
			// Each is joined with some of the others, moved so that their bases are as far apart.
			for k := range 24 {
				o := of[(i*7+k*61)%len(of)]
				o.base = s.base + off
				want := sums{s.base, s.weight + o.weight, s.far + o.far + o.weight*off}
				if !o.canBe() || !want.canBe() {
					continue
				}
				seen++
				if got := s.moment().Join(o.moment()); got != want.moment() {
					t.Fatalf("%v.Join(%v) = %v, not %v", s.moment(), o.moment(), got, want.moment())
				}
			}
		}
	}
	if seen < 50000 {
		t.Fatalf("only %d were held against sums", seen)
	}
}

func TestJoinAtTheEdges(t *testing.T) { // P5.1
	// What is joined, shifted, need not be a moment that can be: what comes of it is.
	for _, x := range []struct{ m, o, want sums }{
		{sums{0, 0, -maxImag}, sums{maxOff, maxReal, maxImag}, sums{0, maxReal, maxImag}},
		{sums{0, 0, 1 - maxImag}, sums{maxOff, maxReal, maxImag - 1}, sums{0, maxReal, maxImag}},
		{sums{0, 0, maxImag}, sums{-maxOff, maxReal, -maxImag}, sums{0, maxReal, -maxImag}},
		{sums{0, 0, maxImag - 1}, sums{-maxOff, maxReal, 1 - maxImag}, sums{0, maxReal, -maxImag}},
		{sums{maxBase, 1, 5}, sums{maxBase - maxOff, maxReal - 1, 0}, sums{maxBase, maxReal, 5 - (maxReal-1)*maxOff}},
		{sums{-maxBase, 0, 0}, sums{maxOff - maxBase, maxReal, -1}, sums{-maxBase, maxReal, maxImag - 1}},
		// Nothing at all adds nothing, on either side.
		{sums{9, 3, -4}, sums{-50, 0, 0}, sums{9, 3, -4}},
		{sums{9, 0, 0}, sums{-50, 3, -4}, sums{9, 3, -181}},
	} {
		if got := x.m.moment().Join(x.o.moment()); got != x.want.moment() || !x.want.canBe() {
			t.Errorf("%v.Join(%v) = %v, not %v", x.m.moment(), x.o.moment(), got, x.want.moment())
		}
	}
}

// product is a times b without any bound.
func product(a, b int) *big.Int {
	return new(big.Int).Mul(big.NewInt(int64(a)), big.NewInt(int64(b)))
}

// roundedDown tells whether so often, and not once more, the weight is in how far all are.
func roundedDown(many int, s sums) bool {
	far := big.NewInt(int64(s.far))
	return product(many, s.weight).Cmp(far) <= 0 && product(many+1, s.weight).Cmp(far) > 0
}

func TestWeightAndMean(t *testing.T) { // P5.2
	c := chance(4)
	of := all()
	for range 100000 {
		of = append(of, sums{c.around(maxBase), c.upTo(maxReal), c.around(maxImag)})
	}
	for _, weight := range []int{2, 3, 7, 1<<20 + 1, 1<<26 - 1, maxReal - 1, maxReal} {
		for range 1000 {
			// The numbers about a whole mean, where rounding goes wrong first.
			far := weight * c.around(maxImag/weight-1)
			of = append(of, sums{9, weight, far - 1}, sums{9, weight, far}, sums{9, weight, far + 1})
		}
	}
	for _, s := range of {
		m := s.moment()
		if m.Weight() != s.weight {
			t.Fatalf("%v.Weight() = %d", m, m.Weight())
		}
		if got := m.Mean(); s.weight == 0 && got != s.base || s.weight > 0 && !roundedDown(got-s.base, s) {
			t.Fatalf("%v.Mean() = %d", m, got)
		}
	}
}

func TestGap(t *testing.T) { // P5.2
	for _, s := range all() {
		m := s.moment()
		for _, off := range offs() {
			v := s.base + off
			got := m.Gap(v)
			if got != s.far-s.weight*off {
				t.Fatalf("%v.Gap(%d) = %d, not %d", m, v, got, s.far-s.weight*off)
			}
			if mean := m.Mean(); s.weight > 0 && (v < mean && got <= 0 || v > mean && got >= 0) {
				t.Fatalf("%v.Gap(%d) = %d, but the mean is %d", m, v, got, mean)
			}
		}
	}
}

// ask asks for all that a moment tells, so that each answer is used.
func ask(m moment.Moment, v int) int {
	if m.Weight()|m.Mean()|m.Gap(v) == 0 {
		return 1
	}
	return 2
}

func TestMomentsThatCannotBe(t *testing.T) { // R1: that the calls end, nothing else
	floats := []float64{math.NaN(), math.Inf(1), math.Inf(-1), math.MaxFloat64, -math.MaxFloat64, math.SmallestNonzeroFloat64, 0, math.Copysign(0, -1), 0.5, -0.5, 0.9999, 1, -1, -3, 1 << 33, 1 << 53, 1 << 62, 1 << 63, -1 << 63, 1 << 64}
	wild := []int{math.MinInt, math.MinInt + 1, -maxBase - 1, -1 << 32, -1, 0, 1, maxWeight + 1, 1 << 40, maxBase + 1, math.MaxInt - 1, math.MaxInt}
	asked := 0
	for _, re := range floats {
		for _, im := range floats {
			for _, base := range wild {
				m := moment.Moment{Base: base, Sum: complex(re, im)}
				asked += ask(m, base)
				for _, a := range wild {
					asked += ask(m, a) + ask(m.Shift(a), base) + ask(m.Join(moment.New(a)), a) + ask(moment.New(a).Join(m), a)
					for _, b := range wild {
						asked += ask(m.Add(a, b), a) + ask(m.Take(a, b), a)
					}
				}
			}
		}
	}
	if asked == 0 {
		t.Error("none was asked")
	}
}

// one is what is added: how far, by which weight.
type one struct{ v, weight int }

// ones are many about a base, of which one at least has a weight.
func ones(c *chance, base, many int) []one {
	l := []one{{base + c.around(maxOff), 1 + c.upTo(maxWeight-1)}}
	for len(l) < many {
		l = append(l, one{base + c.around(maxOff), c.upTo(maxWeight)})
	}
	return l
}

func added(m moment.Moment, l []one) moment.Moment {
	for _, x := range l {
		m = m.Add(x.v, x.weight)
	}
	return m
}

func taken(m moment.Moment, l []one) moment.Moment {
	for _, x := range l {
		m = m.Take(x.v, x.weight)
	}
	return m
}

func shuffled(c *chance, l []one) []one {
	l = slices.Clone(l)
	for i := range l {
		k := int(c.next() % uint64(i+1))
		l[i], l[k] = l[k], l[i]
	}
	return l
}

func TestAnyOrderIsTheSame(t *testing.T) { // P5.3
	c := chance(5)
	for _, base := range bases() {
		for _, many := range []int{1, 2, 3, 10, 100, maxEach} {
			l := ones(&c, base, many)
			m := added(moment.New(base), l)
			for range 5 {
				if n := added(moment.New(base), shuffled(&c, l)); n != m {
					t.Fatalf("base %d, %d in another order: %v, not %v", base, many, n, m)
				}
			}
			slices.SortFunc(l, func(a, b one) int { return a.v - b.v })
			if n := added(moment.New(base), l); n != m {
				t.Fatalf("base %d, %d from the least on: %v, not %v", base, many, n, m)
			}
			k := c.upTo(many)
			if n := added(moment.New(base), l[:k]).Join(added(moment.New(base), l[k:])); n != m {
				t.Fatalf("base %d, %d joined to %d: %v, not %v", base, many-k, k, n, m)
			}
		}
	}
}

func TestWhatIsTakenIsGone(t *testing.T) { // P5.3
	c := chance(6)
	for _, base := range bases() {
		for _, many := range []int{1, 2, 3, 10, 100, maxEach} {
			stay, gone := ones(&c, base, (many+1)/2), ones(&c, base, many/2+1)
			m := added(moment.New(base), stay)
			both := added(moment.New(base), shuffled(&c, append(slices.Clone(stay), gone...)))
			if n := taken(both, shuffled(&c, gone)); n != m || n.Mean() != m.Mean() {
				t.Fatalf("base %d, %d: %v, not %v", base, many, n, m)
			}
			if n := taken(m, shuffled(&c, stay)); n != moment.New(base) || n.Mean() != base {
				t.Fatalf("base %d, %d, all taken: %v", base, many, n)
			}
		}
	}
}

func TestMeanIsBetween(t *testing.T) { // P5.3
	c := chance(7)
	for _, base := range bases() {
		for round := range 300 {
			l := ones(&c, base, 1+round%7)
			if round%3 == 0 {
				// All close together, so that the mean has no room beside them.
				near := base + c.around(maxOff-1)
				for i := range l {
					l[i].v = near + i%2
				}
			}
			m := added(moment.New(base), l)
			least, most := math.MaxInt, math.MinInt
			for _, x := range l {
				least, most = min(least, x.v), max(most, x.v)
			}
			if mean := m.Mean(); mean < least || mean > most {
				t.Fatalf("base %d, %v: the mean is %d", base, l, mean)
			}
			if m.Gap(least) < 0 || m.Gap(most) > 0 {
				t.Fatalf("base %d, %v: the gaps are %d and %d", base, l, m.Gap(least), m.Gap(most))
			}
		}
	}
}

func TestAsManyAsCanBe(t *testing.T) { // P5.1, P5.2, P5.3
	for _, base := range []int{-maxBase, 0, maxBase} {
		for _, off := range []int{-maxOff, maxOff} {
			l := slices.Repeat([]one{{base + off, maxWeight}}, maxEach)
			m := added(moment.New(base), l)
			if m != (sums{base, maxReal, maxReal * off}).moment() {
				t.Fatalf("base %d, all %d off: %v", base, off, m)
			}
			if m.Weight() != maxReal || m.Mean() != base+off || m.Gap(base+off) != 0 || m.Gap(base) != maxReal*off || m.Gap(base-off) != 2*maxReal*off {
				t.Fatalf("base %d, all %d off: weight %d, mean %d", base, off, m.Weight(), m.Mean())
			}
			if n := m.Take(base+off, 1).Add(base+off-1, 1); n.Mean() != base+off-1 || n.Gap(base+off) != -1 {
				t.Fatalf("base %d, one of all less by one: mean %d, gap %d", base, n.Mean(), n.Gap(base+off))
			}
			if n := taken(m, l); n != moment.New(base) {
				t.Fatalf("base %d, all taken: %v", base, n)
			}
		}
	}
}
