package crc_test

import (
	"hash/crc32"
	"math"
	"testing"

	"diapause/crc"
)

const (
	ones      = 0xffffffff
	poly      = 0xedb88320
	mostZeros = 65536
)

// goesIn is the chapter's Words, a bit at a time.
func goesIn(register uint32, b byte) uint32 {
	register ^= uint32(b)
	for range 8 {
		odd := register%2 == 1
		register /= 2
		if odd {
			register ^= poly
		}
	}
	return register
}

// allGoIn is a register into which all bytes went, by the chapter's Words.
func allGoIn(register uint32, b []byte) uint32 {
	for _, x := range b {
		register = goesIn(register, x)
	}
	return register
}

// sample is so many bytes without a pattern that a wrong table could hide in; other seeds tell other ones.
func sample(many int, seed uint32) []byte {
	b := make([]byte, many)
	for i := range b {
		seed = seed*1664525 + 1013904223
		b[i] = byte(seed >> 24)
	}
	return b
}

// registers are each single bit, its neighbours, and some without a pattern.
func registers() []uint32 {
	l := []uint32{0, ones, 0x80000001, 0x7fffffff, poly, ^uint32(poly), 0xcbf43926, 0x01234567, 0x89abcdef}
	for bit := range 32 {
		n := uint32(1) << bit
		l = append(l, n-1, n, ^n)
	}
	return l
}

// counts are those of Zeros and Mend that count as they are, and as what they are held to.
func counts() []struct{ many, held int } {
	return []struct{ many, held int }{
		{math.MinInt, 0}, {math.MinInt32, 0}, {-mostZeros, 0}, {-2, 0}, {-1, 0},
		{0, 0}, {1, 1}, {2, 2}, {3, 3}, {4, 4}, {5, 5}, {255, 255}, {256, 256}, {1000, 1000},
		{mostZeros - 1, mostZeros - 1}, {mostZeros, mostZeros},
		{mostZeros + 1, mostZeros}, {mostZeros + 2, mostZeros}, {2 * mostZeros, mostZeros}, {1 << 32, mostZeros}, {math.MaxInt, mostZeros},
	}
}

func TestOfExamples(t *testing.T) { // P2.1
	for _, x := range []struct {
		b    string
		want uint32
	}{
		{"", 0},
		{"123456789", 0xcbf43926},
		{"a", 0xe8b7be43},
		{"abc", 0x352441c2},
		{"\x00", 0xd202ef8d},
		{"\xff", 0xff000000},
		{"\x00\x00\x00\x00", 0x2144df1c},
		{"\xff\xff\xff\xff", 0xffffffff},
		{"The quick brown fox jumps over the lazy dog", 0x414fa339},
	} {
		if c := crc.Of([]byte(x.b)); c != x.want {
			t.Errorf("Of(%q) = %08x, not %08x", x.b, c, x.want)
		}
	}
}

func TestOfIsBytesGoneIn(t *testing.T) { // P2.1
	for many := range 300 {
		b := sample(many, uint32(many))
		want := ^allGoIn(ones, b)
		if c := crc.Of(b); c != want || c != crc32.ChecksumIEEE(b) {
			t.Fatalf("Of(%x) = %08x, not %08x", b, c, want)
		}
	}
	b := sample(1<<20, 1)
	if c := crc.Of(b); c != crc32.ChecksumIEEE(b) {
		t.Errorf("of a long list: %08x", c)
	}
}

func TestOfNothing(t *testing.T) { // P2.1, R4
	if c, d := crc.Of(nil), crc.Of([]byte{}); c != 0 || d != 0 {
		t.Errorf("Of nothing: %08x, %08x", c, d)
	}
	for _, check := range registers() {
		if c, d := crc.More(check, nil), crc.More(check, []byte{}); c != check || d != check {
			t.Errorf("More(%08x) of nothing: %08x, %08x", check, c, d)
		}
	}
}

func TestMoreOfEachByte(t *testing.T) { // P2.1
	for _, check := range registers() {
		for x := range 256 {
			b := []byte{byte(x)}
			want := ^goesIn(^check, byte(x))
			if c := crc.More(check, b); c != want {
				t.Fatalf("More(%08x, %x) = %08x, not %08x", check, b, c, want)
			}
		}
	}
}

func TestMoreOfAnyCheck(t *testing.T) { // P2.1
	for i, check := range registers() {
		b := sample(i, check)
		want := ^allGoIn(^check, b)
		if c := crc.More(check, b); c != want || c != crc32.Update(check, crc32.IEEETable, b) {
			t.Fatalf("More(%08x, %x) = %08x, not %08x", check, b, c, want)
		}
	}
}

func TestPartsOneBehindTheOther(t *testing.T) { // P2.1
	b := sample(60, 7)
	want := crc.Of(b)
	for i := range len(b) + 1 {
		if c := crc.More(crc.Of(b[:i]), b[i:]); c != want {
			t.Errorf("cut at %d: %08x, not %08x", i, c, want)
		}
		for k := i; k <= len(b); k++ {
			if c := crc.More(crc.More(crc.Of(b[:i]), b[i:k]), b[k:]); c != want {
				t.Fatalf("cut at %d and %d: %08x, not %08x", i, k, c, want)
			}
		}
	}
	c := crc.Of(nil)
	for i := range b {
		c = crc.More(c, b[i:i+1])
	}
	if c != want {
		t.Errorf("byte for byte: %08x, not %08x", c, want)
	}
}

func TestBytesStayAsTheyAre(t *testing.T) { // R5, R6: a capacity tells nothing
	b := sample(20, 3)
	crc.Of(b[:10])
	crc.More(5, b[:10])
	if string(b) != string(sample(20, 3)) {
		t.Error("what was handed in was changed:", b)
	}
	if crc.Of(b[:10]) != crc.Of(sample(20, 3)[:10:10]) {
		t.Error("what lies behind a list is told")
	}
}

func TestZerosOfAnyRegister(t *testing.T) { // P2.2
	for _, register := range registers() {
		want := register
		for many := range 70 {
			if c := crc.Zeros(register, many); c != want {
				t.Fatalf("Zeros(%08x, %d) = %08x, not %08x", register, many, c, want)
			}
			want = goesIn(want, 0)
		}
	}
}

func TestZerosAreHeld(t *testing.T) { // P2.2, R1
	for _, register := range []uint32{0, 1, 3, 0x80000000, 0xcbf43926, ones} {
		for _, x := range counts() {
			want := allGoIn(register, make([]byte, x.held))
			if c := crc.Zeros(register, x.many); c != want {
				t.Errorf("Zeros(%08x, %d) = %08x, not %08x", register, x.many, c, want)
			}
		}
	}
}

func TestZerosTurnNothingOver(t *testing.T) { // P2.2
	for _, check := range registers() {
		for many := range 9 {
			if c, d := crc.Zeros(^check, many), ^crc.More(check, make([]byte, many)); c != d {
				t.Fatalf("%d bytes 0 behind %08x: %08x, not %08x", many, check, c, d)
			}
		}
	}
	if crc.Zeros(5, 0) != 5 || crc.Zeros(0, 9) != 0 || crc.Zeros(0, mostZeros) != 0 {
		t.Error("a register is turned over")
	}
}

func TestMendOfAnyCheck(t *testing.T) { // P2.2
	for _, check := range registers() {
		for by := range 256 {
			want := goesIn(0, byte(by))
			for behind := range 6 {
				if c := crc.Mend(check, byte(by), behind); c != check^want {
					t.Fatalf("Mend(%08x, %d, %d) = %08x, not %08x", check, by, behind, c, check^want)
				}
				want = goesIn(want, 0)
			}
		}
	}
}

func TestMendIsHeld(t *testing.T) { // P2.2, R1
	for _, check := range []uint32{0, 9, 0xcbf43926, ones} {
		for _, by := range []byte{0, 1, 0x80, 0xff} {
			for _, x := range counts() {
				want := check ^ allGoIn(goesIn(0, by), make([]byte, x.held))
				if c := crc.Mend(check, by, x.many); c != want {
					t.Errorf("Mend(%08x, %d, %d) = %08x, not %08x", check, by, x.many, c, want)
				}
			}
		}
	}
}

func TestMendedByteByByte(t *testing.T) { // P2.2
	if c := crc.Mend(crc.Of([]byte("abcd")), 'b'^'x', 2); c != crc.Of([]byte("axcd")) {
		t.Errorf("abcd to axcd: %08x", c)
	}
	from, to := sample(90, 1), sample(90, 2)
	c := crc.Of(from)
	for i := range from {
		by := from[i] ^ to[i]
		c = crc.Mend(c, by, len(from)-1-i)
		from[i] = to[i]
		if c != crc.Of(from) {
			t.Fatalf("byte %d: %08x, not %08x", i, c, crc.Of(from))
		}
	}
}

func TestMendedFarAhead(t *testing.T) { // P2.2
	for _, behind := range []int{mostZeros - 1, mostZeros} {
		b := sample(mostZeros+3, 5)
		check := crc.Of(b)
		b[len(b)-1-behind] ^= 0xa5
		if c := crc.Mend(check, 0xa5, behind); c != crc.Of(b) {
			t.Errorf("with %d behind: %08x, not %08x", behind, c, crc.Of(b))
		}
	}
}

// turn is bytes of which those bits are turned over that pattern has, from bit at on: the lowest bit of each byte is its first, as it goes in first.
func turn(b []byte, at int, pattern uint32) []byte {
	c := append([]byte(nil), b...)
	for bit := range 32 {
		if pattern>>bit&1 == 1 {
			c[(at+bit)/8] ^= 1 << ((at + bit) % 8)
		}
	}
	return c
}

func TestWhatDiffersWithin32Bits(t *testing.T) { // P2.3
	const lowPoly = (poly<<1 | 1) & ones
	b := sample(24, 11)
	check := crc.Of(b)
	differs := func(at int, pattern uint32) {
		if c := turn(b, at, pattern); crc.Of(c) == check {
			t.Fatalf("%x and %x have the same check", b, c)
		}
	}
	for at := range len(b)*8 - 31 {
		for _, pattern := range registers() {
			if pattern != 0 {
				differs(at, pattern)
			}
		}
		// 33 bits can leave no trace, a bit and the polynomial behind it: either end of these, and whatever is nearest to one.
		for bit := range 32 {
			differs(at, poly^1<<bit)
			differs(at, lowPoly^1<<bit)
		}
		differs(at, poly)
		differs(at, lowPoly)
	}
	for pattern := uint32(1); pattern < 1<<16; pattern++ {
		differs(int(pattern)%8, pattern)
		differs(8*len(b)-32, pattern<<16|1)
	}
}

func TestWhatDiffersIn33BitsMay(t *testing.T) { // P2.3: the promise ends where it says
	b := sample(24, 11)
	for at := range len(b)*8 - 32 {
		c := turn(turn(b, at, 1), at+1, poly)
		if crc.Of(c) != crc.Of(b) {
			t.Fatalf("from bit %d on the polynomial leaves a trace", at)
		}
	}
}

// four is the four bytes of a check: bits are halved back in, from the highest, which tells what was halved out.
func four(check uint32) []byte {
	register := ^check
	for range 32 {
		if register>>31 == 1 {
			register = (register^poly)<<1 | 1
		} else {
			register <<= 1
		}
	}
	register ^= ones
	return []byte{byte(register), byte(register >> 8), byte(register >> 16), byte(register >> 24)}
}

func TestFourBytesHaveAnyCheck(t *testing.T) { // P2.3
	l := registers()
	for n := range uint32(1 << 16) {
		l = append(l, n, n<<16, n*0x9e3779b1)
	}
	for _, check := range l {
		if b := four(check); crc.Of(b) != check {
			t.Fatalf("Of(%x) = %08x, not %08x", b, crc.Of(b), check)
		}
	}
}

func TestNoTwoFourBytesHaveOneCheck(t *testing.T) { // P2.3
	// Checks of four bytes differ as their bits do, one by one: if no choice of bits leaves nothing, no two have one check.
	none := crc.Of(make([]byte, 4))
	var free [32]uint32
	for bit := range 32 {
		left := crc.Of(turn(make([]byte, 4), 0, 1<<bit)) ^ none
		for top := 31; top >= 0 && left != 0; top-- {
			if left>>top == 1 && free[top] != 0 {
				left ^= free[top]
			}
			if left>>top == 1 {
				free[top] = left
				break
			}
		}
		if left == 0 {
			t.Fatalf("bit %d makes what others make", bit)
		}
	}
	for _, at := range []int{0, 8, 16} {
		seen := map[uint32]uint32{}
		for n := range uint32(1 << 16) {
			c := crc.Of(turn(sample(4, 1), at, n))
			if other, is := seen[c]; is {
				t.Fatalf("from bit %d on %04x and %04x have one check", at, n, other)
			}
			seen[c] = n
		}
	}
}
