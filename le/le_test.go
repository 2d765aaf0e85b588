package le_test

import (
	"bytes"
	"math"
	"math/big"
	"testing"

	"diapause/api"
	"diapause/le"
)

// widths are those that count as they are, those just beside them, and the ones furthest off.
func widths() []int {
	return []int{math.MinInt, -9, -1, 0, 1, 2, 3, 4, 5, 6, 7, 8, 9, 64, math.MaxInt}
}

// held is the width that the chapter's Words make of one, told here by cases of its own.
func held(width int) int {
	switch {
	case width < 1:
		return 1
	case width > 8:
		return 8
	}
	return width
}

// numbers are those at which a byte more is needed, or the sign turns, and some in between.
func numbers() []uint64 {
	l := []uint64{0, 1, 2, 258, 0x0123456789abcdef, 0xfedcba9876543210, 0x8080808080808080, 0x7f7f7f7f7f7f7f7f}
	for bit := 0; bit < 64; bit++ {
		n := uint64(1) << bit
		l = append(l, n-1, n, n+1, -n)
	}
	return l
}

// modulo is n modulo 2^(8 width), reckoned by large numbers.
func modulo(n uint64, width int) (number, all *big.Int) {
	all = new(big.Int).Lsh(big.NewInt(1), uint(8*held(width)))
	return new(big.Int).Mod(new(big.Int).SetUint64(n), all), all
}

func TestPutExamples(t *testing.T) { // P1.1
	for _, x := range []struct {
		out   string
		n     uint64
		width int
		want  string
	}{
		{"", 258, 3, "\x02\x01\x00"},
		{"ab", 258, 3, "ab\x02\x01\x00"},
		{"", 258, 2, "\x02\x01"},
		{"", 258, 1, "\x02"},
		{"", 256, 1, "\x00"},
		{"", 0, 8, "\x00\x00\x00\x00\x00\x00\x00\x00"},
		{"a", 0x0807060504030201, 8, "a\x01\x02\x03\x04\x05\x06\x07\x08"},
		{"a", 0x0807060504030201, 7, "a\x01\x02\x03\x04\x05\x06\x07"},
		{"a", 0x0201, 0, "a\x01"},
		{"a", 0x0201, math.MinInt, "a\x01"},
		{"a", 0x0807060504030201, 9, "a\x01\x02\x03\x04\x05\x06\x07\x08"},
		{"a", 0x0807060504030201, math.MaxInt, "a\x01\x02\x03\x04\x05\x06\x07\x08"},
	} {
		if b := le.Put([]byte(x.out), x.n, x.width); string(b) != x.want {
			t.Errorf("Put(%q, %d, %d) = %q, not %q", x.out, x.n, x.width, b, x.want)
		}
	}
}

func TestPutIsEachByteOfTheNumber(t *testing.T) { // P1.1
	for _, width := range widths() {
		for _, n := range numbers() {
			b := le.Put([]byte{7}, n, width)
			if len(b) != 1+held(width) || b[0] != 7 {
				t.Fatalf("Put(7, %d, %d) = %v", n, width, b)
			}
			rest, base := new(big.Int).SetUint64(n), big.NewInt(256)
			for i, got := range b[1:] {
				low := new(big.Int)
				rest.DivMod(rest, base, low)
				if int64(got) != low.Int64() {
					t.Fatalf("Put(7, %d, %d): byte %d is %d, not %d", n, width, i, got, low)
				}
			}
		}
	}
}

func TestPutBehindNothing(t *testing.T) { // P1.1, R4
	for _, width := range widths() {
		if a, b := le.Put(nil, 513, width), le.Put([]byte{}, 513, width); !bytes.Equal(a, b) {
			t.Errorf("width %d: %v, %v", width, a, b)
		}
	}
}

func TestPutLeavesWhatIsHandedIn(t *testing.T) { // R5
	whole := []byte{1, 2, 3, 4, 5, 6, 7, 8, 9, 10}
	a := le.Put(whole[:2], math.MaxUint64, 8)
	if string(whole) != "\x01\x02\x03\x04\x05\x06\x07\x08\x09\x0a" {
		t.Error("what lies behind was written over:", whole)
	}
	b := le.Put(whole[:2], 0, 8)
	if string(a) != "\x01\x02\xff\xff\xff\xff\xff\xff\xff\xff" || string(b) != "\x01\x02\x00\x00\x00\x00\x00\x00\x00\x00" {
		t.Error("two answers to one list share memory:", a, b)
	}
	start := le.Put(nil, 1, 1)
	a, b = le.Put(start, 2, 1), le.Put(start, 3, 1)
	if string(a) != "\x01\x02" || string(b) != "\x01\x03" {
		t.Error("two answers to one answer share memory:", a, b)
	}
}

func TestSignExamples(t *testing.T) { // P1.1
	for _, x := range []struct {
		n     uint64
		width int
		want  int64
	}{
		{0, 1, 0}, {127, 1, 127}, {128, 1, -128}, {255, 1, -1}, {256, 1, 0}, {384, 1, -128}, {0xff7f, 1, 127},
		{255, 2, 255}, {1<<15 - 1, 2, 1<<15 - 1}, {1 << 15, 2, -1 << 15}, {1<<16 - 1, 2, -1},
		{1<<55 - 1, 7, 1<<55 - 1}, {1 << 55, 7, -1 << 55}, {1 << 56, 7, 0},
		{1<<63 - 1, 8, math.MaxInt64}, {1 << 63, 8, math.MinInt64}, {math.MaxUint64, 8, -1},
		{255, 0, -1}, {256, math.MinInt, 0}, {255, 9, 255}, {1 << 63, math.MaxInt, math.MinInt64},
	} {
		if n := le.Sign(x.n, x.width); n != x.want {
			t.Errorf("Sign(%d, %d) = %d, not %d", x.n, x.width, n, x.want)
		}
	}
}

func TestSignByLargeNumbers(t *testing.T) { // P1.1
	for _, width := range widths() {
		for _, n := range numbers() {
			want, all := modulo(n, width)
			if new(big.Int).Lsh(want, 1).Cmp(all) >= 0 {
				want.Sub(want, all)
			}
			if got := le.Sign(n, width); big.NewInt(got).Cmp(want) != 0 {
				t.Fatalf("Sign(%d, %d) = %d, not %d", n, width, got, want)
			}
		}
	}
}

// state is what a reader tells of itself.
type state struct {
	left      int
	fail, end api.Errno
}

func expect(t *testing.T, r *le.Reader, want state) {
	t.Helper()
	if got := (state{r.Left(), r.Fail(), r.End()}); got != want {
		t.Errorf("the reader tells %+v, not %+v", got, want)
	}
}

func TestReaderGoesOn(t *testing.T) { // P1.2
	r := le.New([]byte{2, 1, 0, 9, 8, 255, 4})
	expect(t, r, state{7, api.OK, api.ErrTail})
	if n := r.Take(3); n != 258 {
		t.Error(n)
	}
	expect(t, r, state{4, api.OK, api.ErrTail})
	if b := r.Part(2); string(b) != "\x09\x08" {
		t.Error(b)
	}
	expect(t, r, state{2, api.OK, api.ErrTail})
	if b := r.Part(0); len(b) != 0 {
		t.Error(b)
	}
	expect(t, r, state{2, api.OK, api.ErrTail})
	if n := r.Take(-1); n != 255 {
		t.Error(n)
	}
	if n := r.Take(1); n != 4 {
		t.Error(n)
	}
	expect(t, r, state{0, api.OK, api.OK})
	if b := r.Part(0); len(b) != 0 {
		t.Error(b)
	}
	expect(t, r, state{0, api.OK, api.OK})
}

func TestTakeOfEachWidth(t *testing.T) { // P1.2
	b := []byte{0x81, 0x82, 0x83, 0x84, 0x85, 0x86, 0x87, 0x88, 0x89}
	for _, width := range widths() {
		want := uint64(0)
		for i := held(width) - 1; i >= 0; i-- {
			want = want*256 + uint64(b[i])
		}
		r := le.New(b)
		if n := r.Take(width); n != want {
			t.Errorf("Take(%d) = %#x, not %#x", width, n, want)
		}
		expect(t, r, state{len(b) - held(width), api.OK, api.ErrTail})
	}
}

func TestTakeOfTooFew(t *testing.T) { // P1.2, R3
	for _, width := range widths() {
		for left := 0; left < held(width); left++ {
			r := le.New([]byte{1, 2, 3, 4, 5, 6, 7, 8}[:left])
			if n := r.Take(width); n != 0 {
				t.Errorf("Take(%d) of %d bytes = %d", width, left, n)
			}
			expect(t, r, state{left, api.ErrShort, api.ErrShort})
		}
		r := le.New(make([]byte, held(width)))
		r.Take(width)
		expect(t, r, state{0, api.OK, api.OK})
	}
}

func TestPartOfEachLength(t *testing.T) { // P1.2
	b := []byte{5, 6, 7}
	for many := 0; many <= len(b); many++ {
		r := le.New(b)
		if p := r.Part(many); string(p) != string(b[:many]) {
			t.Errorf("Part(%d) = %v", many, p)
		}
		end := api.ErrTail
		if many == len(b) {
			end = api.OK
		}
		expect(t, r, state{len(b) - many, api.OK, end})
	}
}

func TestPartThatCannotBe(t *testing.T) { // P1.2, R1, R3
	for _, x := range []struct {
		many int
		fail api.Errno
	}{
		{4, api.ErrShort}, {5, api.ErrShort}, {math.MaxInt, api.ErrShort},
		{-1, api.ErrArg}, {-3, api.ErrArg}, {math.MinInt, api.ErrArg},
	} {
		r := le.New([]byte{5, 6, 7})
		if p := r.Part(x.many); len(p) != 0 {
			t.Errorf("Part(%d) = %v", x.many, p)
		}
		expect(t, r, state{3, x.fail, x.fail})
		r = le.New([]byte{5, 6, 7})
		r.Take(1)
		if p := r.Part(x.many); len(p) != 0 {
			t.Errorf("behind Take, Part(%d) = %v", x.many, p)
		}
		expect(t, r, state{2, x.fail, x.fail})
	}
}

func TestWhoFailedStaysSo(t *testing.T) { // P1.2
	for _, x := range []struct {
		how  func(*le.Reader)
		fail api.Errno
	}{
		{func(r *le.Reader) { r.Take(8) }, api.ErrShort},
		{func(r *le.Reader) { r.Part(8) }, api.ErrShort},
		{func(r *le.Reader) { r.Part(-1) }, api.ErrArg},
	} {
		r := le.New([]byte{5, 6, 7})
		x.how(r)
		for _, width := range widths() {
			if n := r.Take(width); n != 0 {
				t.Errorf("Take(%d) = %d", width, n)
			}
			expect(t, r, state{3, x.fail, x.fail})
			if p := r.Part(width); len(p) != 0 {
				t.Errorf("Part(%d) = %v", width, p)
			}
			expect(t, r, state{3, x.fail, x.fail})
		}
	}
}

func TestReaderOfNothing(t *testing.T) { // P1.2, R4
	for _, b := range [][]byte{nil, {}} {
		expect(t, le.New(b), state{0, api.OK, api.OK})
		r := le.New(b)
		if p := r.Part(0); len(p) != 0 {
			t.Error(p)
		}
		expect(t, r, state{0, api.OK, api.OK})
		if p := r.Part(1); len(p) != 0 {
			t.Error(p)
		}
		expect(t, r, state{0, api.ErrShort, api.ErrShort})
		r = le.New(b)
		if n := r.Take(0); n != 0 {
			t.Error(n)
		}
		expect(t, r, state{0, api.ErrShort, api.ErrShort})
		r = le.New(b)
		r.Part(-1)
		expect(t, r, state{0, api.ErrArg, api.ErrArg})
	}
}

func TestReaderHasMemoryOfItsOwn(t *testing.T) { // R5
	b := []byte{1, 2, 3, 4}
	r, other := le.New(b), le.New(b)
	p := r.Part(2)
	clear(b)
	if string(p) != "\x01\x02" {
		t.Error("what was answered is what was handed in:", p)
	}
	if n := r.Take(2); n != 0x0403 {
		t.Errorf("what is kept is what was handed in: %#x", n)
	}
	q := other.Part(2)
	q[0] = 99
	q = append(q, 99)
	if n := other.Take(2); n != 0x0403 || q[2] != 99 {
		t.Errorf("what was answered is what is kept: %#x", n)
	}
	whole := []byte{1, 2, 3}
	le.New(whole).Part(3)[0] = 99
	if whole[0] != 1 {
		t.Error("what was handed in was changed:", whole)
	}
}

func TestBytesBehindTheListAreNone(t *testing.T) { // P1.2, R6: a capacity tells nothing
	r := le.New([]byte{1, 2, 3, 4}[:1])
	if n := r.Take(2); n != 0 {
		t.Error(n)
	}
	expect(t, r, state{1, api.ErrShort, api.ErrShort})
	r = le.New([]byte{1, 2, 3, 4}[:1])
	if p := r.Part(2); len(p) != 0 {
		t.Error(p)
	}
	expect(t, r, state{1, api.ErrShort, api.ErrShort})
}

func TestWhatWasPutIsTaken(t *testing.T) { // P1.3
	for _, width := range widths() {
		var b []byte
		for _, n := range numbers() {
			b = le.Put(b, n, width)
		}
		r := le.New(b)
		for _, n := range numbers() {
			want, _ := modulo(n, width)
			if got := r.Take(width); got != want.Uint64() {
				t.Fatalf("width %d: %d was put, %d was taken", width, n, got)
			}
		}
		expect(t, r, state{0, api.OK, api.OK})
	}
}

func TestWhatWasPutWithASignIsTaken(t *testing.T) { // P1.1, P1.3
	for width := 1; width <= 8; width++ {
		half := int64(1) << (8*width - 2) // twice that is the first that does not fit
		for _, n := range []int64{0, 1, -1, half, -half, half + (half - 1), -half - half} {
			if got := le.Sign(le.New(le.Put(nil, uint64(n), width)).Take(width), width); got != n {
				t.Errorf("width %d: %d was put, %d was taken", width, n, got)
			}
		}
	}
}

func TestUnlikeNumbersAreUnlikeBytes(t *testing.T) { // P1.3
	for width := 1; width <= 8; width++ {
		of := map[string]uint64{}
		note := func(n uint64) {
			if fit, _ := modulo(n, width); fit.Uint64() != n {
				return
			}
			b := string(le.Put(nil, n, width))
			if other, is := of[b]; is && other != n {
				t.Fatalf("width %d: %d and %d are both put as %q", width, n, other, b)
			}
			of[b] = n
		}
		for n := uint64(0); n < 1<<16; n++ {
			note(n)
		}
		for _, n := range numbers() {
			note(n)
		}
	}
}
