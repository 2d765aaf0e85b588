package slots_test

import (
	"encoding/binary"
	"fmt"
	"hash/crc32"
	"slices"
	"strings"
	"testing"

	"diapause/api"
	"diapause/disk"
	"diapause/slots"
)

const (
	sectorBytes = 64
	headBytes   = 25
	maxAge      = 1 << 40
)

// chance is numbers without a pattern, the same ones each time.
type chance uint64

func (c *chance) next() uint64 {
	*c = *c*6364136223846793005 + 1442695040888963407
	return uint64(*c) ^ uint64(*c)>>29
}

// upTo is a number from 0 to most, all of them as frequent.
func (c *chance) upTo(most int) int {
	return int((c.next() >> 8) % uint64(most+1))
}

// text is so many bytes.
func (c *chance) text(many int) string {
	b := make([]byte, many)
	for i := range b {
		b[i] = byte(c.upTo(255))
	}
	return string(b)
}

// bools are so many.
func (c *chance) bools(many int) []bool {
	l := make([]bool, many)
	for i := range l {
		l[i] = c.upTo(1) == 1
	}
	return l
}

// long is how many sectors a slot has, of a disk of so many.
func long(sectors int) int { return (sectors - 2) / 2 }

// room is how many bytes a slot has.
func room(sectors int) int { return long(sectors) * sectorBytes }

// begin is the first sector of a slot.
func begin(sectors, number int) int {
	if number == 0 {
		return 2
	}
	return 2 + long(sectors)
}

// row is what a head's sector says, each part as it may be right or wrong: what it says as its check is exclusive-or'd with wrong.
type row struct {
	magic     string
	age       uint64
	has       byte
	size, sum uint32
	wrong     uint32
	behind    string
}

func (x row) text() string {
	order := binary.LittleEndian
	b := order.AppendUint64([]byte(x.magic), x.age)
	b = append(b, x.has)
	b = order.AppendUint32(b, x.size)
	b = order.AppendUint32(b, x.sum)
	return string(order.AppendUint32(b, crc32.ChecksumIEEE(b)^x.wrong)) + x.behind
}

// state is what is found: the image is a text, which nobody can change.
type state struct {
	age   int
	has   bool
	image string
}

func (m state) String() string {
	return fmt.Sprintf("{%d %v %d bytes: %.80x}", m.age, m.has, len(m.image), m.image)
}

// row is the head of it, right in all parts.
func (m state) row() row {
	x := row{magic: "DPZS", age: uint64(m.age), behind: strings.Repeat("\x00", sectorBytes-headBytes)}
	if m.has {
		x.has, x.size, x.sum = 1, uint32(len(m.image)), crc32.ChecksumIEEE([]byte(m.image))
	}
	return x
}

// counts tells whether a head counts, in the chapter's words, and what it says.
func counts(l []string, number int) (state, bool) {
	b, order := []byte(l[number]), binary.LittleEndian
	age, size, sum := order.Uint64(b[4:]), order.Uint32(b[13:]), order.Uint32(b[17:])
	if string(b[:4]) != "DPZS" || b[12] > 1 || order.Uint32(b[21:]) != crc32.ChecksumIEEE(b[:21]) || strings.Trim(l[number][headBytes:], "\x00") != "" {
		return state{}, false
	}
	if age < 1 || age > maxAge || age%2 != uint64(number) {
		return state{}, false
	}
	if b[12] == 0 {
		return state{age: int(age)}, size == 0 && sum == 0
	}
	slot := strings.Join(l[begin(len(l), number):][:long(len(l))], "")
	if uint64(size) > uint64(len(slot)) {
		return state{}, false
	}
	m := state{int(age), true, slot[:size]}
	return m, crc32.ChecksumIEEE([]byte(m.image)) == sum
}

// found is what Open finds of sectors.
func found(l []string) state {
	zero, even := counts(l, 0)
	one, odd := counts(l, 1)
	switch {
	case even && (!odd || zero.age > one.age):
		return zero
	case odd:
		return one
	}
	return state{}
}

// read are all sectors as they are read.
func read(d *disk.Disk) ([]string, api.Errno) {
	var l []string
	for i := range d.Len() {
		b, e := d.Read(i)
		if e != api.OK {
			return nil, e
		}
		l = append(l, string(b))
	}
	return l, api.OK
}

// write does to a disk what a head of this state asks for; lay, what its image does.
func (m state) write(d *disk.Disk) api.Errno {
	if e := d.Write(m.age%2, []byte(m.row().text())); e != api.OK {
		return e
	}
	return d.Flush()
}

func (m state) lay(d *disk.Disk) api.Errno {
	rest := m.image
	for i := begin(d.Len(), m.age%2); rest != ""; i++ {
		part := rest[:min(sectorBytes, len(rest))]
		if e := d.Write(i, []byte(part)); e != api.OK {
			return e
		}
		rest = rest[len(part):]
	}
	return d.Flush()
}

// commit is what becomes of a store, and of its disk, in the chapter's words.
func (m *state) commit(d *disk.Disk, image string) api.Errno {
	if len(image) > room(d.Len()) {
		return api.ErrLong
	}
	if m.age >= maxAge {
		return api.ErrRange
	}
	n := state{m.age + 1, true, image}
	if e := n.lay(d); e != api.OK {
		return e
	}
	return m.turn(d, n)
}

func (m *state) delete(d *disk.Disk) api.Errno {
	if !m.has {
		return api.ErrNone
	}
	if m.age >= maxAge {
		return api.ErrRange
	}
	return m.turn(d, state{age: m.age + 1})
}

func (m *state) turn(d *disk.Disk, n state) api.Errno {
	e := n.write(d)
	if e == api.OK {
		*m = n
	}
	return e
}

// told is what a store tells.
func told(s *slots.Store) state {
	b, has := s.Image()
	return state{s.Age(), has, string(b)}
}

// opened is the store of a disk that is on.
func opened(t *testing.T, d *disk.Disk) *slots.Store {
	t.Helper()
	s, e := slots.Open(d)
	if e != api.OK || s == nil {
		t.Fatalf("Open = %v, %v", s, e)
	}
	return s
}

// must fails at an error.
func must(t *testing.T, l ...api.Errno) {
	t.Helper()
	for i, e := range l {
		if e != api.OK {
			t.Fatalf("call %d: %v", i, e)
		}
	}
}

// pair is a store on a disk, and a model of it on a twin of that disk, with which the same is done: each call fails where they answer differently, and same where the disks do.
type pair struct {
	t       *testing.T
	d, twin *disk.Disk
	s       *slots.Store
	m       state
}

func newPair(t *testing.T, sectors int) *pair {
	t.Helper()
	p := &pair{t: t, d: disk.New(sectors), twin: disk.New(sectors)}
	p.open()
	return p
}

// open makes a new store of the disk; where that can't be the old one stays.
func (p *pair) open() {
	p.t.Helper()
	l, want := read(p.twin)
	s, e := slots.Open(p.d)
	if e != want || (s == nil) != (e != api.OK) {
		p.t.Fatalf("Open = %v, %v, not %v", s, e, want)
	}
	if e == api.OK {
		p.s, p.m = s, found(l)
	}
	p.same()
}

func (p *pair) commit(image string) api.Errno {
	p.t.Helper()
	b := []byte(image)
	want := p.m.commit(p.twin, image)
	if got := p.s.Commit(b); got != want {
		p.t.Fatalf("Commit(%d bytes) = %v, not %v", len(b), got, want)
	}
	if string(b) != image {
		p.t.Fatalf("Commit(%x) has made %x of it", image, b)
	}
	p.same()
	return want
}

func (p *pair) delete() api.Errno {
	p.t.Helper()
	want := p.m.delete(p.twin)
	if got := p.s.Delete(); got != want {
		p.t.Fatalf("Delete() = %v, not %v", got, want)
	}
	p.same()
	return want
}

// both does something to both disks.
func (p *pair) both(do func(d *disk.Disk)) {
	p.t.Helper()
	do(p.d)
	do(p.twin)
	p.same()
}

func (p *pair) arm(calls int) { p.both(func(d *disk.Disk) { d.Arm(calls) }) }

func (p *pair) crash(keep ...bool) { p.both(func(d *disk.Disk) { d.Crash(keep) }) }

func (p *pair) rot(i, bit int) { p.both(func(d *disk.Disk) { d.Rot(i, bit) }) }

// lay lets a disk have a sector.
func (p *pair) lay(i int, b string) {
	p.both(func(d *disk.Disk) { must(p.t, d.Write(i, []byte(b)), d.Flush()) })
}

// same fails if anything that can be told of store and disk is not what the model has.
func (p *pair) same() {
	p.t.Helper()
	for range 2 { // asking changes nothing
		if got := told(p.s); got != p.m {
			p.t.Fatalf("%v, not %v", got, p.m)
		}
		if got, want := p.s.Room(), room(p.twin.Len()); got != want {
			p.t.Fatalf("Room() = %d, not %d", got, want)
		}
	}
	if got, want := p.d.Waits(), p.twin.Waits(); !slices.Equal(got, want) {
		p.t.Fatalf("%v wait, not %v", got, want)
	}
	kept := p.d.Kept()
	for i, want := range p.twin.Kept() {
		if string(kept[i]) != string(want) {
			p.t.Fatalf("sector %d is kept as %x, not %x", i, kept[i], want)
		}
	}
	got, e := read(p.d)
	want, f := read(p.twin)
	if e != f || !slices.Equal(got, want) {
		p.t.Fatalf("sectors are read as %x, %v, not %x, %v", got, e, want, f)
	}
}
