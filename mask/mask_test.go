package mask_test

import (
	"math"
	"math/bits"
	"regexp"
	"slices"
	"strconv"
	"strings"
	"testing"

	"diapause/api"
	"diapause/mask"
)

const every = mask.Set(math.MaxUint64)

// numbers are all cores, those just beside them, and such as are a core again if only their low bits are looked at.
func numbers() []int {
	l := []int{math.MinInt, math.MinInt + 1, math.MinInt32, -256, -128, -65, -64, -63, -2, -1}
	for core := range 64 {
		l = append(l, core)
	}
	return append(l, 64, 65, 127, 128, 256, 1<<16, 1<<32, 1<<32+1, math.MaxInt-1, math.MaxInt)
}

// sets are none, all, each core alone and each but one, all runs, and some without a pattern.
func sets() []mask.Set {
	l := []mask.Set{0, every, 0x5555555555555555, 0xaaaaaaaaaaaaaaaa, 0x3333333333333333, 0xdb6db6db6db6db6d, 0xf0f, 0x8000000000000001, 0x0123456789abcdef}
	for low := range 64 {
		for high := low; high < 64; high++ {
			run := every >> (63 - high) >> low << low
			l = append(l, run, ^run)
		}
	}
	seed := mask.Set(1)
	for range 2000 {
		seed = seed*6364136223846793005 + 1442695040888963407
		l = append(l, seed, seed&(seed<<7), seed|seed>>9)
	}
	return l
}

// list is the cores of a set, by halving: a number of 64 bits tells no others.
func list(s mask.Set) []int {
	l := []int{}
	for core := 0; s > 0; core++ {
		if s%2 == 1 {
			l = append(l, core)
		}
		s /= 2
	}
	return l
}

// set is the set of a list of cores.
func set(l []int) mask.Set {
	s := mask.Set(0)
	for _, core := range l {
		s |= 1 << core
	}
	return s
}

func TestUp(t *testing.T) { // P3.1
	for _, n := range numbers() {
		want := []int{}
		for core := 0; core < n && core < 64; core++ {
			want = append(want, core)
		}
		if got := mask.Up(n); got != set(want) {
			t.Errorf("Up(%d) = %x, not %x", n, got, set(want))
		}
	}
	if mask.Up(0) != 0 || mask.Up(1) != 1 || mask.Up(2) != 3 || mask.Up(63) != every/2 || mask.Up(64) != every {
		t.Error(mask.Up(0), mask.Up(1), mask.Up(2), mask.Up(63), mask.Up(64))
	}
}

func TestHasOfAnyNumber(t *testing.T) { // P3.1
	for _, s := range sets() {
		in := list(s)
		for _, core := range numbers() {
			if got, want := s.Has(core), slices.Contains(in, core); got != want {
				t.Fatalf("%x.Has(%d) = %v", s, core, got)
			}
		}
	}
}

func TestWithAndWithoutOfAnyNumber(t *testing.T) { // P3.1
	for _, s := range sets() {
		in := list(s)
		for _, core := range numbers() {
			with, without := s, s
			if core >= 0 && core < 64 {
				with = set(append([]int{core}, in...))
				without = set(slices.DeleteFunc(slices.Clone(in), func(c int) bool { return c == core }))
			}
			if got := s.With(core); got != with {
				t.Fatalf("%x.With(%d) = %x, not %x", s, core, got, with)
			}
			if got := s.Without(core); got != without {
				t.Fatalf("%x.Without(%d) = %x, not %x", s, core, got, without)
			}
		}
	}
}

func TestAllAndLen(t *testing.T) { // P3.1
	for _, s := range sets() {
		if got, want := s.All(), list(s); !slices.Equal(got, want) {
			t.Fatalf("%x.All() = %v, not %v", s, got, want)
		}
		if got, want := s.Len(), bits.OnesCount64(uint64(s)); got != want {
			t.Fatalf("%x.Len() = %d, not %d", s, got, want)
		}
	}
	if l := mask.Set(0).All(); len(l) != 0 {
		t.Error(l)
	}
}

func TestFirstAndNth(t *testing.T) { // P3.1
	for _, s := range sets() {
		in := list(s)
		for _, k := range numbers() {
			want := -1
			if k >= 0 && k < len(in) {
				want = in[k]
			}
			if got := s.Nth(k); got != want {
				t.Fatalf("%x.Nth(%d) = %d, not %d", s, k, got, want)
			}
			if got := s.First(); k == 0 && got != want {
				t.Fatalf("%x.First() = %d, not %d", s, got, want)
			}
		}
	}
}

func TestAnswersAreMemoryOfTheirOwn(t *testing.T) { // P3.1, R5
	s := mask.Set(0x8003)
	a, b := s.All(), s.All()
	a[0] = 9
	a = append(a, 9)
	if b = append(b, 8); !slices.Equal(b, []int{0, 1, 15, 8}) || a[3] != 9 || !slices.Equal(s.All(), []int{0, 1, 15}) {
		t.Error(a, b, s.All())
	}
}

func TestTextExamples(t *testing.T) { // P3.2
	for _, x := range []struct {
		s mask.Set
		t string
	}{
		{0, "-"},
		{set([]int{0, 1, 2, 5, 63}), "0-2,5,63"},
		{1, "0"}, {2, "1"}, {3, "0-1"}, {5, "0,2"}, {7, "0-2"},
		{1 << 9, "9"}, {3 << 9, "9-10"}, {1 << 10, "10"}, {5 << 9, "9,11"}, {1<<9 | 1<<10 | 1<<12, "9-10,12"},
		{1 << 62, "62"}, {1 << 63, "63"}, {3 << 62, "62-63"}, {1<<63 | 1, "0,63"}, {1<<63 | 1<<61, "61,63"},
		{every, "0-63"}, {every - 1, "1-63"}, {every / 2, "0-62"}, {every &^ (1 << 31), "0-30,32-63"}, {every &^ (3 << 31), "0-30,33-63"},
		{0x5555555555555555, "0,2,4,6,8,10,12,14,16,18,20,22,24,26,28,30,32,34,36,38,40,42,44,46,48,50,52,54,56,58,60,62"},
	} {
		if got := x.s.Text(); got != x.t {
			t.Errorf("%x.Text() = %q, not %q", x.s, got, x.t)
		}
		if got, e := mask.Parse(x.t); got != x.s || e != api.OK {
			t.Errorf("Parse(%q) = %x, %v", x.t, got, e)
		}
	}
}

// text is the chapter's text of a set: each core is laid behind the run that it follows, or is a run.
func text(s mask.Set) string {
	var runs [][]int
	for _, core := range list(s) {
		if n := len(runs); n > 0 && runs[n-1][len(runs[n-1])-1] == core-1 {
			runs[n-1] = append(runs[n-1], core)
			continue
		}
		runs = append(runs, []int{core})
	}
	if len(runs) == 0 {
		return "-"
	}
	var l []string
	for _, run := range runs {
		t := strconv.Itoa(run[0])
		if len(run) > 1 {
			t += "-" + strconv.Itoa(run[len(run)-1])
		}
		l = append(l, t)
	}
	return strings.Join(l, ",")
}

func TestTextOfAnySet(t *testing.T) { // P3.2
	for _, s := range sets() {
		if got, want := s.Text(), text(s); got != want {
			t.Fatalf("%x.Text() = %q, not %q", s, got, want)
		}
	}
}

var runForm = regexp.MustCompile(`^(0|[1-9][0-9]?)(?:-([1-9][0-9]?))?$`)

// told is the set of a text, and whether it is one: each run by itself has its form, fits, and lies behind a gap.
func told(t string) (mask.Set, bool) {
	if t == "-" {
		return 0, true
	}
	s, free := mask.Set(0), 0
	for _, run := range strings.Split(t, ",") {
		m := runForm.FindStringSubmatch(run)
		if m == nil {
			return 0, false
		}
		first, _ := strconv.Atoi(m[1])
		last := first
		if m[2] != "" {
			if last, _ = strconv.Atoi(m[2]); last <= first {
				return 0, false
			}
		}
		if first < free || last > 63 {
			return 0, false
		}
		for core := first; core <= last; core++ {
			s |= 1 << core
		}
		free = last + 2
	}
	return s, true
}

func parses(t *testing.T, text string) {
	t.Helper()
	want, is := told(text)
	e := api.ErrForm
	if is {
		e = api.OK
	}
	if got, err := mask.Parse(text); got != want || err != e {
		t.Fatalf("Parse(%q) = %x, %v, not %x, %v", text, got, err, want, e)
	}
}

func TestParseOfAllShortTexts(t *testing.T) { // P3.2
	signs := []string{"0", "1", "2", "3", "6", "9", "-", ",", "+", " "}
	texts := []string{""}
	for range 5 {
		var longer []string
		for _, x := range texts {
			parses(t, x)
			for _, sign := range signs {
				longer = append(longer, x+sign)
			}
		}
		texts = longer
	}
	for _, x := range texts {
		parses(t, x)
	}
}

func TestParseOfTextsThatAreNearlyRight(t *testing.T) { // P3.2
	for _, x := range []string{"-", "0", "63", "0-63", "0-2,5,63", "9-10,12", "1,3,5-7,62-63", "0-30,32-63"} {
		parses(t, x)
		for at := range len(x) + 1 {
			for b := range 256 {
				parses(t, x[:at]+string([]byte{byte(b)})+x[at:])
				if at < len(x) {
					parses(t, x[:at]+string([]byte{byte(b)})+x[at+1:])
				}
			}
			if at < len(x) {
				parses(t, x[:at]+x[at+1:])
			}
			parses(t, x[at:]+x[:at])
		}
	}
}

func TestParseOfAllRuns(t *testing.T) { // P3.2
	for first := range 67 {
		parses(t, strconv.Itoa(first))
		for last := range 67 {
			run := strconv.Itoa(first) + "-" + strconv.Itoa(last)
			parses(t, run)
			parses(t, strconv.Itoa(first)+","+strconv.Itoa(last))
			parses(t, run+","+strconv.Itoa(last+1))
			parses(t, run+","+strconv.Itoa(last+2))
			parses(t, strconv.Itoa(max(first-1, 0))+","+run)
			parses(t, strconv.Itoa(max(first-2, 0))+","+run)
		}
	}
}

func TestParseOfWrongTexts(t *testing.T) { // P3.2, R1, R3
	for _, x := range []string{
		"", ",", "--", "-,", ",-", "-,-", "-,0", "0,-", "0-", "-0", "-1", "0,", ",0", "0,,2", "0--2", "0-1-2", "0-1-", "-0-1",
		"64", "65", "99", "100", "063", "00", "01", "0-01", "00-1", "0-64", "63-64", "64-65", "0x1", "0b1", "1_0", "1e1", "1.", "+1", "0-+1", "1-+2",
		"0,1", "0-1,2", "0,1-2", "0-2,1", "0-2,2-4", "1,1", "1-1", "2-1", "63-0", "3,2", "63,0", "0-1,0-1",
		" ", " 0", "0 ", "0, 2", "0 -2", "0\n", "0\x00", "\x000", "a", "all", "nil", "0;2", "0:2", "0–2", "٣", "０", "\xff", "−",
		"9223372036854775807", "0-9223372036854775807", "9223372036854775808", "-9223372036854775808", "18446744073709551616", "18446744073709551617", "4294967296", "256", "0-256",
		"9223372036854775807-9223372036854775807", "9223372036854775807-0",
		strings.Repeat("0", 1<<16), strings.Repeat("9", 1<<16), strings.Repeat("-", 1<<16), strings.Repeat(",", 1<<16), strings.Repeat("0,", 1<<16), strings.Repeat("0-63,", 1<<14) + "0-63",
	} {
		if s, e := mask.Parse(x); s != 0 || e != api.ErrForm {
			t.Errorf("Parse(%.80q) = %x, %v", x, s, e)
		}
	}
}

func TestRemapExamples(t *testing.T) { // P3.3
	for _, x := range []struct {
		s, online mask.Set
		open      bool
		want      mask.Set
		e         api.Errno
	}{
		{6, 3, false, 2, api.OK}, {6, 3, true, 2, api.OK},
		{6, 6, false, 6, api.OK}, {6, 6, true, 6, api.OK},
		{6, 15, true, 6, api.OK}, {15, 6, true, 6, api.OK},
		{4, 3, false, 0, api.ErrMask}, {4, 3, true, 3, api.OK},
		{0, 3, false, 0, api.ErrMask}, {0, 3, true, 3, api.OK},
		{4, 0, false, 0, api.ErrMask}, {4, 0, true, 0, api.ErrMask},
		{0, 0, false, 0, api.ErrMask}, {0, 0, true, 0, api.ErrMask},
		{every, 0, false, 0, api.ErrMask}, {every, 0, true, 0, api.ErrMask},
		{1 << 63, every, false, 1 << 63, api.OK}, {every, 1 << 63, false, 1 << 63, api.OK},
		{every / 2, 1 << 63, false, 0, api.ErrMask}, {every / 2, 1 << 63, true, 1 << 63, api.OK},
	} {
		if s, e := mask.Remap(x.s, x.online, x.open); s != x.want || e != x.e {
			t.Errorf("Remap(%x, %x, %v) = %x, %v, not %x, %v", x.s, x.online, x.open, s, e, x.want, x.e)
		}
	}
}

func TestRemapOfAnySets(t *testing.T) { // P3.3
	l := sets()
	for i, s := range l {
		for _, online := range []mask.Set{0, s, ^s, l[len(l)-1-i], 1, 1 << 63, every} {
			both := []int{}
			for _, core := range list(s) {
				if slices.Contains(list(online), core) {
					both = append(both, core)
				}
			}
			for _, open := range []bool{false, true} {
				want, e := set(both), api.OK
				if len(both) == 0 && open {
					want = online
				}
				if want == 0 {
					e = api.ErrMask
				}
				if got, err := mask.Remap(s, online, open); got != want || err != e {
					t.Fatalf("Remap(%x, %x, %v) = %x, %v, not %x, %v", s, online, open, got, err, want, e)
				}
			}
		}
	}
}

func TestWhatIsToldIsRead(t *testing.T) { // P3.4
	of := map[string]mask.Set{}
	tell := func(s mask.Set) {
		text := s.Text()
		if other, is := of[text]; is && other != s {
			t.Fatalf("%x and %x are both told as %q", s, other, text)
		}
		of[text] = s
		if got, e := mask.Parse(text); got != s || e != api.OK {
			t.Fatalf("%x is told as %q, and read as %x, %v", s, text, got, e)
		}
	}
	for _, s := range sets() {
		tell(s)
	}
	for n := range mask.Set(1 << 14) {
		tell(n)
		tell(n << 50)
		tell(n<<50 | n)
	}
}
