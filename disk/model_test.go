package disk_test

import (
	"bytes"
	"math"
	"slices"
	"strings"
	"testing"

	"diapause/api"
	"diapause/disk"
)

const (
	sectorBytes = 64
	maxSectors  = 512
	maxCalls    = 1 << 20
)

// chance is numbers without a pattern, the same ones each time.
type chance uint64

func (c *chance) next() uint64 {
	*c = *c*6364136223846793005 + 1442695040888963407
	return uint64(*c) ^ uint64(*c)>>29
}

// upTo is a number from 0 to most, all of them as frequent.
func (c *chance) upTo(most int) int {
	return int((c.next() >> 8) % uint64(most+1))
}

// bytes are so many.
func (c *chance) bytes(many int) []byte {
	b := make([]byte, many)
	for i := range b {
		b[i] = byte(c.upTo(255))
	}
	return b
}

// bools are so many.
func (c *chance) bools(many int) []bool {
	l := make([]bool, many)
	for i := range l {
		l[i] = c.upTo(1) == 1
	}
	return l
}

// model is a disk in the chapter's words: texts, which nobody can change. What waits is empty where nothing does; armed is below 0 where it isn't.
type model struct {
	kept, waiting []string
	armed, made   int
}

func newModel(sectors int) *model {
	sectors = min(max(sectors, 0), maxSectors)
	return &model{kept: slices.Repeat([]string{sector("")}, sectors), waiting: make([]string, sectors), armed: -1}
}

// sector is a text with bytes 0 behind it.
func sector(t string) string { return t + strings.Repeat("\x00", sectorBytes-len(t)) }

func (m *model) isThere(i int) bool { return 0 <= i && i <= len(m.kept)-1 }

func (m *model) isOff() bool { return m.armed >= 0 && m.made >= m.armed }

func (m *model) read(i int) (string, api.Errno) {
	switch {
	case !m.isThere(i):
		return "", api.ErrRange
	case m.isOff():
		return "", api.ErrDisk
	case m.waiting[i] != "":
		return m.waiting[i], api.OK
	}
	return m.kept[i], api.OK
}

func (m *model) write(i int, t string) api.Errno {
	off := m.isOff()
	m.made++
	switch {
	case off:
		return api.ErrDisk
	case !m.isThere(i):
		return api.ErrRange
	case len(t) > sectorBytes:
		return api.ErrLong
	}
	m.waiting[i] = sector(t)
	return api.OK
}

func (m *model) flush() api.Errno {
	off := m.isOff()
	m.made++
	if off {
		return api.ErrDisk
	}
	for _, i := range m.waits() {
		m.kept[i], m.waiting[i] = m.waiting[i], ""
	}
	return api.OK
}

func (m *model) waits() []int {
	var l []int
	for i, t := range m.waiting {
		if t != "" {
			l = append(l, i)
		}
	}
	return l
}

func (m *model) arm(calls int) { m.armed, m.made = min(max(calls, 0), maxCalls), 0 }

func (m *model) crash(keep []bool) {
	for _, i := range m.waits() {
		if len(keep) > 0 {
			if keep[0] {
				m.kept[i] = m.waiting[i]
			}
			keep = keep[1:]
		}
		m.waiting[i] = ""
	}
	m.armed = -1
}

func (m *model) rot(i, bit int) {
	if !m.isThere(i) || bit < 0 || bit > 511 {
		return
	}
	b := []byte(m.kept[i])
	b[bit/8] = b[bit/8] ^ []byte{1, 2, 4, 8, 16, 32, 64, 128}[bit%8]
	m.kept[i] = string(b)
}

// pair is a disk, and a model with which the same is done: each call fails where they answer differently.
type pair struct {
	t *testing.T
	d *disk.Disk
	m *model
}

func newPair(t *testing.T, sectors int) pair {
	t.Helper()
	p := pair{t, disk.New(sectors), newModel(sectors)}
	p.same()
	return p
}

func (p pair) read(i int) {
	p.t.Helper()
	want, e := p.m.read(i)
	if got, f := p.d.Read(i); string(got) != want || f != e {
		p.t.Fatalf("Read(%d) = %x, %v, not %x, %v", i, got, f, want, e)
	}
}

func (p pair) write(i int, t string) api.Errno {
	p.t.Helper()
	want, b := p.m.write(i, t), []byte(t)
	if got := p.d.Write(i, b); got != want {
		p.t.Fatalf("Write(%d, %x) = %v, not %v", i, t, got, want)
	}
	if string(b) != t {
		p.t.Fatalf("Write(%d, %x) has made %x of it", i, t, b)
	}
	return want
}

func (p pair) flush() api.Errno {
	p.t.Helper()
	want := p.m.flush()
	if got := p.d.Flush(); got != want {
		p.t.Fatalf("Flush() = %v, not %v", got, want)
	}
	return want
}

func (p pair) arm(calls int) {
	p.d.Arm(calls)
	p.m.arm(calls)
}

func (p pair) crash(keep ...bool) {
	p.t.Helper()
	was := slices.Clone(keep)
	p.d.Crash(keep)
	p.m.crash(was)
	if !slices.Equal(keep, was) {
		p.t.Fatalf("Crash(%v) has made %v of it", was, keep)
	}
}

func (p pair) rot(i, bit int) {
	p.d.Rot(i, bit)
	p.m.rot(i, bit)
}

// same fails if anything that can be told is not what the model has.
func (p pair) same() {
	p.t.Helper()
	if p.d.Len() != len(p.m.kept) {
		p.t.Fatalf("Len() = %d, not %d", p.d.Len(), len(p.m.kept))
	}
	if got, want := p.d.Waits(), p.m.waits(); !slices.Equal(got, want) {
		p.t.Fatalf("Waits() = %v, not %v", got, want)
	}
	kept := p.d.Kept()
	if len(kept) != len(p.m.kept) {
		p.t.Fatalf("Kept() has %d, not %d", len(kept), len(p.m.kept))
	}
	for i, want := range p.m.kept {
		if string(kept[i]) != want {
			p.t.Fatalf("Kept()[%d] = %x, not %x", i, kept[i], want)
		}
		p.read(i)
	}
	for _, i := range notThere(len(p.m.kept)) {
		p.read(i)
	}
}

// notThere are numbers of which a disk of so many sectors has none.
func notThere(sectors int) []int {
	return []int{sectors, sectors + 1, sectors + 64, 1 << 32, 1<<32 + 1, 1 << 62, math.MaxInt, -1, -2, -64, -1 << 32, math.MinInt, math.MinInt + 1}
}

// must fails at an error.
func must(t *testing.T, l ...api.Errno) {
	t.Helper()
	for i, e := range l {
		if e != api.OK {
			t.Fatalf("call %d: %v", i, e)
		}
	}
}

// some is a text of some bytes, now and then of too many.
func some(c *chance) string {
	return string(c.bytes([]int{0, 1, 2, 7, 63, 64, 64, 65, 66, 200}[c.upTo(9)]))
}

// step does anything, to a pair of so many sectors.
func step(c *chance, p pair, sectors int) {
	p.t.Helper()
	i := c.upTo(max(sectors, 1)) - c.upTo(9)/9
	switch c.upTo(15) {
	case 0, 1, 2, 3, 4, 5:
		p.write(i, some(c))
	case 6:
		p.flush()
	case 7:
		p.crash(c.bools(c.upTo(sectors + 2))...)
	case 8:
		p.arm(c.upTo(9) - 1)
	case 9, 10:
		p.rot(i, c.upTo(513)-1)
	default:
		p.read(i)
	}
}

func TestLongRuns(t *testing.T) { // P9.1, P9.2, P9.3, P9.4
	c := chance(1)
	for _, sectors := range []int{0, 1, 2, 3, 5, 8, 31} {
		for range 40 {
			p := newPair(t, sectors)
			for range 150 {
				step(&c, p, sectors)
				p.same()
			}
		}
	}
	p := newPair(t, maxSectors)
	for range 400 {
		for range 40 {
			step(&c, p, maxSectors)
		}
		p.same()
	}
}

// each is all that a short run may do to a disk of two sectors.
func each() []func(p pair) {
	return []func(p pair){
		func(p pair) { p.write(0, "a") },
		func(p pair) { p.write(1, "bc") },
		func(p pair) { p.write(2, "d") },
		func(p pair) { p.write(0, strings.Repeat("e", sectorBytes+1)) },
		func(p pair) { p.flush() },
		func(p pair) { p.crash() },
		func(p pair) { p.crash(true) },
		func(p pair) { p.crash(false, true) },
		func(p pair) { p.arm(0) },
		func(p pair) { p.arm(1) },
		func(p pair) { p.arm(2) },
		func(p pair) { p.rot(0, 1) },
	}
}

func TestAllShortRuns(t *testing.T) { // P9.1, P9.2, P9.3, P9.4
	const long = 4
	do := each()
	var way [long]int
	for {
		p := newPair(t, 2)
		for _, k := range way {
			do[k](p)
			p.same()
		}
		at := 0
		for at < long && way[at] == len(do)-1 {
			way[at] = 0
			at++
		}
		if at == long {
			return
		}
		way[at]++
	}
}

func TestDisksOfTheirOwn(t *testing.T) { // P9.1, R6: what is done to one is done to no other one
	c := chance(2)
	l := []pair{newPair(t, 4), newPair(t, 4), newPair(t, 7)}
	for range 3000 {
		step(&c, l[c.upTo(len(l)-1)], 4)
		for _, p := range l {
			p.same()
		}
	}
}

// spoil overwrites a list of bytes, and what room is behind it.
func spoil(b []byte) {
	b = b[:cap(b)]
	for i := range b {
		b[i] ^= 0xff
	}
}

func TestMemoryOfItsOwn(t *testing.T) { // R5: what is handed in, and answered, is overwritten afterwards
	p := newPair(t, 4)
	for range 2 {
		b := []byte("what is handed in")
		p.m.write(1, string(b))
		must(t, p.d.Write(1, b))
		spoil(b)
		full := bytes.Repeat([]byte("x"), sectorBytes)
		p.m.write(2, string(full))
		must(t, p.d.Write(2, full))
		spoil(full)
		p.same()
		for i := range 4 {
			b, e := p.d.Read(i)
			must(t, e)
			spoil(b)
		}
		waits := p.d.Waits()
		waits = waits[:cap(waits)]
		for i := range waits {
			waits[i] = 99
		}
		p.same()
		for i, b := range p.d.Kept() {
			spoil(b)
			p.same()
			if again := p.d.Kept(); string(again[i]) != p.m.kept[i] {
				t.Fatalf("%x is kept", again[i])
			}
		}
		p.flush()
		p.same()
	}
	// Nor do those of one answer share memory, nor two answers.
	kept, other := p.d.Kept(), p.d.Kept()
	spoil(kept[1])
	one, _ := p.d.Read(1)
	two, _ := p.d.Read(1)
	spoil(one)
	if string(two) != p.m.kept[1] {
		t.Errorf("Read tells %x", two)
	}
	for i := range other {
		if string(other[i]) != p.m.kept[i] || i != 1 && string(kept[i]) != p.m.kept[i] {
			t.Errorf("of sector %d Kept tells %x, and %x", i, other[i], kept[i])
		}
	}
	p.same()
}

func TestWhatWasToldStays(t *testing.T) { // R5: an answer isn't changed by what is done afterwards
	p := newPair(t, 3)
	must(t, p.write(0, "old"), p.flush(), p.write(1, "new"))
	kept, waits := p.d.Kept(), p.d.Waits()
	zero, _ := p.d.Read(0)
	one, _ := p.d.Read(1)
	must(t, p.write(0, "other"), p.write(1, "other"), p.flush())
	p.rot(0, 3)
	p.rot(1, 3)
	if string(kept[0]) != sector("old") || string(kept[1]) != sector("") || string(zero) != sector("old") || string(one) != sector("new") || !slices.Equal(waits, []int{1}) {
		t.Errorf("%x; %x, %x, %v", kept, zero, one, waits)
	}
	p.same()
}
