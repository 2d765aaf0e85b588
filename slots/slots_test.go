package slots_test

import (
	"fmt"
	"hash/crc32"
	"math"
	"slices"
	"strings"
	"testing"

	"diapause/api"
	"diapause/disk"
	"diapause/slots"
)

// keptAt is what is kept of a sector.
func keptAt(d *disk.Disk, i int) string { return string(d.Kept()[i]) }

// padded is a text with bytes 0 behind it.
func padded(t string) string { return t + strings.Repeat("\x00", sectorBytes-len(t)) }

// aged is a pair of which the newest head is of that age, with an image or without; the one before it has one.
func aged(t *testing.T, sectors, age int, has bool) *pair {
	t.Helper()
	p := newPair(t, sectors)
	for _, m := range []state{{age - 1, true, "older"}, {age, has, "newer"}} {
		if !m.has {
			m.image = ""
		}
		if m.age > 0 {
			must(t, m.lay(p.d), m.write(p.d), m.lay(p.twin), m.write(p.twin))
		}
	}
	p.open()
	if p.m.age != age || p.m.has != has {
		t.Fatalf("%v", p.m)
	}
	return p
}

func TestExamples(t *testing.T) { // P11.1, P11.2
	d := disk.New(8)
	s := opened(t, d)
	if s.Room() != 192 || told(s) != (state{}) {
		t.Errorf("%d, %v", s.Room(), told(s))
	}
	must(t, s.Commit([]byte("123456789")))
	if told(s) != (state{1, true, "123456789"}) {
		t.Errorf("%v", told(s))
	}
	// The check of 123456789 stands in chapter 2.
	head := "DPZS\x01\x00\x00\x00\x00\x00\x00\x00\x01\x09\x00\x00\x00\x26\x39\xf4\xcb"
	sum := crc32.ChecksumIEEE([]byte(head))
	head += string([]byte{byte(sum), byte(sum >> 8), byte(sum >> 16), byte(sum >> 24)})
	want := slices.Repeat([]string{padded("")}, 8)
	want[1], want[5] = padded(head), padded("123456789")
	for i, x := range want {
		if keptAt(d, i) != x {
			t.Errorf("sector %d: %q", i, keptAt(d, i))
		}
	}
	if len(d.Waits()) != 0 {
		t.Errorf("%v wait", d.Waits())
	}
}

func TestDisksOfAnyLength(t *testing.T) { // P11.1, P11.2
	for sectors := range 520 {
		d := disk.New(sectors)
		s, e := slots.Open(d)
		if sectors < 4 {
			if e != api.ErrArg || s != nil {
				t.Errorf("%d sectors: %v, %v", sectors, s, e)
			}
			d.Arm(0) // what can't be told of it need not be read
			if s, e := slots.Open(d); e != api.ErrArg || s != nil {
				t.Errorf("%d sectors, off: %v, %v", sectors, s, e)
			}
			continue
		}
		if e != api.OK || s.Room() != room(min(sectors, 512)) || told(s) != (state{}) {
			t.Errorf("%d sectors: %v, %v", sectors, s, e)
		}
	}
	c := chance(1)
	for _, sectors := range []int{4, 5, 6, 7, 8, 9, 31, 32, 511, 512} {
		p := newPair(t, sectors)
		for range 4 {
			must(t, p.commit(c.text(room(sectors))))
			p.open()
			if e := p.commit(c.text(room(sectors) + 1)); e != api.ErrLong {
				t.Errorf("%d sectors: %v", sectors, e)
			}
		}
		must(t, p.delete())
		p.open()
	}
}

func TestOpenOfADiskThatIsOff(t *testing.T) { // P11.1, R2, R3
	p := newPair(t, 6)
	must(t, p.commit("one"))
	for _, calls := range []int{0, -1, math.MinInt} {
		p.arm(calls)
		if s, e := slots.Open(p.d); e != api.ErrDisk || s != nil {
			t.Errorf("%v, %v", s, e)
		}
		p.crash()
		p.open()
	}
	p.arm(1)
	for range 3 { // Open makes no call that counts
		p.open()
	}
	p.both(func(d *disk.Disk) { must(t, d.Flush()) })
	p.open()
}

func TestHeadsOfEachForm(t *testing.T) { // P11.1: what is wrong in one part alone doesn't count
	long := strings.Repeat("x", 192)
	for age := 1; age <= 2; age++ {
		m := state{age, true, "an image"}
		none := state{age: age}
		zero := crc32.ChecksumIEEE(make([]byte, 8))
		for i, x := range []struct {
			of    state
			make  func(x *row)
			count bool
		}{
			{m, func(x *row) {}, true},
			{none, func(x *row) {}, true},
			{state{age, true, ""}, func(x *row) {}, true},
			{state{age, true, long}, func(x *row) {}, true},
			{m, func(x *row) { x.magic = "DPZ1" }, false},
			{m, func(x *row) { x.magic = "dpzs" }, false},
			{m, func(x *row) { x.magic = "SZPD" }, false},
			{m, func(x *row) { x.magic = "\x00\x00\x00\x00" }, false},
			{m, func(x *row) { x.wrong = 1 }, false},
			{m, func(x *row) { x.wrong = 1 << 31 }, false},
			{m, func(x *row) { x.sum++ }, false},
			{m, func(x *row) { x.sum ^= 1 << 31 }, false},
			{m, func(x *row) { x.sum = 0 }, false},
			{m, func(x *row) { x.sum = ^x.sum }, false},
			{m, func(x *row) { x.size-- }, false},
			{m, func(x *row) { x.size++ }, false},
			{m, func(x *row) { x.has = 0 }, false},
			{m, func(x *row) { x.has, x.size = 0, 0 }, false},
			{m, func(x *row) { x.has, x.sum = 0, 0 }, false},
			{none, func(x *row) { x.size = 1 }, false},
			{none, func(x *row) { x.size = 1 << 31 }, false},
			{none, func(x *row) { x.size = 193 }, false},
			{none, func(x *row) { x.sum = 1 }, false},
			{none, func(x *row) { x.size, x.sum = 8, zero }, false},
			{none, func(x *row) { x.has = 1 }, true}, // an image of no bytes
			{none, func(x *row) { x.has, x.size, x.sum = 1, 8, zero }, true},
		} {
			p := newPair(t, 8)
			must(t, x.of.lay(p.d), x.of.lay(p.twin))
			r := x.of.row()
			x.make(&r)
			p.lay(age%2, r.text())
			p.open()
			if (p.m.age == age) != x.count {
				t.Errorf("age %d, row %d: %v", age, i, p.m)
			}
			// What is there beside it is found, if it doesn't count.
			other := state{3 - age, true, "other"}
			must(t, other.lay(p.d), other.lay(p.twin))
			p.lay(other.age%2, other.row().text())
			p.open()
			if !x.count && p.m != other || x.count && p.m.age != 2 {
				t.Errorf("age %d, row %d: %v", age, i, p.m)
			}
		}
	}
}

func TestHeadsOfEachFlag(t *testing.T) { // P11.1: of the byte that tells whether there is an image 0 and 1 alone count
	for has := range 256 {
		for _, of := range []state{{1, true, "an image"}, {1, true, ""}, {1, false, ""}} {
			p := newPair(t, 8)
			must(t, of.lay(p.d), of.lay(p.twin))
			x := of.row()
			x.has = byte(has)
			p.lay(1, x.text())
			p.open()
			if want := has == 1 || has == 0 && of.image == ""; (p.m.age == 1) != want || p.m.has != (has == 1) {
				t.Errorf("%d: %v", has, p.m)
			}
		}
	}
}

func TestHeadsWithBytesBehind(t *testing.T) { // P11.1: behind its 25 bytes are bytes 0
	for i := range sectorBytes - headBytes {
		for bit := range 8 {
			p := newPair(t, 6)
			must(t, p.commit("one"), p.commit("two"))
			x := p.m.row()
			b := []byte(x.behind)
			b[i] = 1 << bit
			x.behind = string(b)
			p.lay(0, x.text())
			p.open()
			if p.m != (state{1, true, "one"}) {
				t.Errorf("byte %d: %v", headBytes+i, p.m)
			}
		}
	}
}

func TestHeadsOfEachAge(t *testing.T) { // P11.1: from 1 to 2^40, even in sector 0, odd in sector 1
	ages := []uint64{0, 1, 2, 3, 4, 5, 255, 256, 257, 65535, 65536, 1<<31 - 1, 1 << 31, 1<<32 - 1, 1 << 32, 1<<32 + 1, 1<<32 + 2, maxAge - 2, maxAge - 1, maxAge, maxAge + 1, maxAge + 2, 2 * maxAge, 1<<48 + 1, 1 << 56, 1<<63 - 2, 1<<63 - 1, 1 << 63, 1<<63 + 1, 1<<63 + 2, 1<<64 - 2, 1<<64 - 1}
	for _, age := range ages {
		for number := range 2 {
			for _, has := range []bool{true, false} {
				p := newPair(t, 4)
				x := state{0, has, ""}.row()
				x.age = age
				p.lay(number, x.text())
				p.open()
				want := state{}
				if age >= 1 && age <= maxAge && age%2 == uint64(number) {
					want = state{int(age), has, ""}
				}
				if p.m != want {
					t.Errorf("age %d in sector %d: %v, not %v", age, number, p.m, want)
				}
			}
		}
	}
}

func TestHeadsOfEachSize(t *testing.T) { // P11.1: no more bytes than a slot, though the check is that of what lies there
	for _, sectors := range []int{4, 5, 6, 7, 9, 10} {
		c := chance(2)
		whole := ""
		p := newPair(t, sectors)
		for i := 2; i < sectors; i++ {
			b := c.text(sectorBytes)
			p.lay(i, b)
			whole += b
		}
		for age := 1; age <= 2; age++ {
			behind := whole[(begin(sectors, age%2)-2)*sectorBytes:]
			for size := range len(behind) + 2 {
				x := state{age, true, behind[:min(size, len(behind))]}.row()
				x.size = uint32(size)
				p.lay(age%2, x.text())
				p.open()
				if want := size <= room(sectors); p.m.has != want || want && p.m.image != behind[:size] {
					t.Fatalf("%d sectors, age %d, size %d: %v", sectors, age, size, p.m)
				}
			}
			for _, size := range []uint32{1 << 16, 1<<16 + 1, 1 << 24, 1<<31 - 1, 1 << 31, 1<<32 - 1} {
				for _, sum := range []uint32{0, crc32.ChecksumIEEE([]byte(behind))} {
					p.lay(age%2, row{magic: "DPZS", age: uint64(age), has: 1, size: size, sum: sum}.text())
					p.open()
					if p.m != (state{}) {
						t.Errorf("size %d: %v", size, p.m)
					}
				}
			}
			p.lay(age%2, "")
		}
	}
}

func TestTheGreaterAgeIsFound(t *testing.T) { // P11.1
	ages := []int{1, 2, 3, 4, 5, 100, 101, 1 << 32, 1<<32 + 1, maxAge - 1, maxAge}
	for _, zero := range ages {
		for _, one := range ages {
			if zero%2 != 0 || one%2 != 1 {
				continue
			}
			for k := range 4 {
				p := newPair(t, 6)
				for _, m := range []state{{zero, k&1 > 0, ""}, {one, k&2 > 0, ""}} {
					if m.has {
						m.image = fmt.Sprint("image ", m.age)
					}
					must(t, m.lay(p.d), m.write(p.d), m.lay(p.twin), m.write(p.twin))
				}
				p.open()
				if p.m.age != max(zero, one) {
					t.Errorf("%d and %d: %v", zero, one, p.m)
				}
			}
		}
	}
}

func TestOpenOfWhatWaits(t *testing.T) { // P11.1: it is read, though it isn't kept yet
	p := newPair(t, 6)
	must(t, p.commit("one"))
	two := state{2, true, "two"}
	p.both(func(d *disk.Disk) {
		must(t, d.Write(2, []byte("two")), d.Write(0, []byte(two.row().text())))
	})
	p.open()
	if p.m != two {
		t.Errorf("%v", p.m)
	}
	p.crash() // the store still tells what Open read
	must(t, p.commit("three"))
	if p.m.age != 3 || keptAt(p.d, 0) != padded("") {
		t.Errorf("%v, %x", p.m, keptAt(p.d, 0))
	}
	p.open()
	p.lay(1, "")
	p.open()
	if p.m != (state{}) {
		t.Errorf("%v", p.m)
	}
}

func TestOpenOfAnySectors(t *testing.T) { // P11.1
	c := chance(3)
	for range 3000 {
		sectors := 4 + c.upTo(6)
		p := newPair(t, sectors)
		for number := range 2 {
			m := state{2*c.upTo(5) + number, c.upTo(3) > 0, ""}
			if m.has {
				m.image = c.text(c.upTo(room(sectors)))
			}
			x := m.row()
			switch c.upTo(9) {
			case 0:
				x.size = uint32(c.upTo(room(sectors) + 70))
			case 1:
				x.age = uint64(c.upTo(20))
			case 2:
				x.has ^= 1
			case 3:
				x.wrong = uint32(c.next())
			}
			if m.has && c.upTo(5) > 0 {
				must(t, m.lay(p.d), m.lay(p.twin))
			}
			p.lay(number, x.text())
		}
		p.open()
		for range 3 {
			p.commit(c.text(c.upTo(room(sectors) + 1)))
			p.open()
		}
	}
}

func TestCommitOfEachLength(t *testing.T) { // P11.2: sector by sector, with bytes 0 behind it; nothing else is written
	c := chance(4)
	for _, sectors := range []int{4, 5, 6, 8, 9} {
		p := newPair(t, sectors)
		for i := range sectors {
			p.lay(i, c.text(sectorBytes)) // what lies there already is seen, if it stays
		}
		p.open()
		for size := range room(sectors) + 1 {
			for range 2 {
				image := c.text(size)
				must(t, p.commit(image))
				whole := ""
				for _, b := range p.d.Kept()[begin(sectors, p.m.age%2):] {
					whole += string(b)
				}
				end := (size + sectorBytes - 1) / sectorBytes * sectorBytes
				if whole[:end] != image+strings.Repeat("\x00", end-size) || p.m != (state{p.m.age, true, image}) {
					t.Fatalf("%d bytes: %v, %x", size, p.m, whole)
				}
			}
			p.open()
		}
	}
}

func TestCommitOfImagesOfAnyKind(t *testing.T) { // P11.2: what the bytes are is nobody's business
	p := newPair(t, 8)
	m := state{7, true, "a head"}
	for _, image := range []string{"\x00", strings.Repeat("\x00", 64), strings.Repeat("\x00", 192), strings.Repeat("\xff", 192), "x\x00", "x" + strings.Repeat("\x00", 100), m.row().text(), padded(m.row().text()), ""} {
		for range 2 {
			must(t, p.commit(image))
			p.open()
			must(t, p.delete())
			p.open()
			must(t, p.commit(image), p.commit(image)) // a new age, though it is the same image
			p.open()
		}
	}
}

func TestCommitOfNoBytes(t *testing.T) { // P11.2, R4: an image of no bytes is one
	for _, image := range [][]byte{nil, {}, make([]byte, 0, 70), []byte("abc")[:0]} {
		p := newPair(t, 4)
		must(t, p.commit("one"), p.commit("two"), p.s.Commit(image), p.m.commit(p.twin, ""))
		p.same()
		p.open()
		if p.m != (state{3, true, ""}) || keptAt(p.d, 3) != padded("one") {
			t.Errorf("%v, %q", p.m, keptAt(p.d, 3))
		}
		must(t, p.delete())
		p.open()
		// Of no bytes no sector is written: flush, head, flush.
		p.arm(3)
		must(t, p.commit(""))
		if _, e := slots.Open(p.d); e != api.ErrDisk {
			t.Errorf("%v", e)
		}
	}
}

func TestFirstErrorOfCommit(t *testing.T) { // P11.2, R2, R3
	for _, sectors := range []int{4, 5, 8} {
		for _, age := range []int{0, 1, 2, 7, maxAge - 1, maxAge} {
			for _, off := range []bool{false, true} {
				for _, more := range []int{-room(sectors), -1, 0, 1, 2, 64, room(sectors), 1 << 16} {
					p := newPair(t, sectors)
					if age > 0 {
						p = aged(t, sectors, age, true)
					}
					if off {
						p.arm(0)
					}
					want := api.OK
					switch {
					case more > 0:
						want = api.ErrLong
					case age == maxAge:
						want = api.ErrRange
					case off:
						want = api.ErrDisk
					}
					if e := p.commit(strings.Repeat("x", room(sectors)+more)); e != want {
						t.Errorf("%d sectors, age %d, off %v, %d more: %v, not %v", sectors, age, off, more, e, want)
					}
					p.crash(true, true)
					p.open()
				}
			}
		}
	}
}

func TestFirstErrorOfDelete(t *testing.T) { // P11.3, R2, R3
	for _, age := range []int{0, 1, 2, 7, maxAge - 1, maxAge} {
		for k := range 4 {
			has, off := k&1 > 0, k&2 > 0
			if age == 0 && has {
				continue
			}
			p := newPair(t, 6)
			if age > 0 {
				p = aged(t, 6, age, has)
			}
			if off {
				p.arm(0)
			}
			want := api.OK
			switch {
			case !has:
				want = api.ErrNone
			case age == maxAge:
				want = api.ErrRange
			case off:
				want = api.ErrDisk
			}
			if e := p.delete(); e != want {
				t.Errorf("age %d, %v, off %v: %v, not %v", age, has, off, e, want)
			}
			p.crash(true)
			p.open()
		}
	}
}

func TestUpToTheLastAge(t *testing.T) { // P11.2, P11.3
	p := aged(t, 6, maxAge-3, true)
	must(t, p.commit("a"), p.delete(), p.commit("b"))
	if p.m != (state{maxAge, true, "b"}) {
		t.Errorf("%v", p.m)
	}
	for range 2 {
		if e, f := p.commit("c"), p.delete(); e != api.ErrRange || f != api.ErrRange {
			t.Errorf("%v, %v", e, f)
		}
		p.open()
	}
	p = aged(t, 6, maxAge-1, true)
	must(t, p.delete())
	for range 2 {
		if e, f := p.commit(""), p.delete(); e != api.ErrRange || f != api.ErrNone || p.m != (state{age: maxAge}) {
			t.Errorf("%v, %v; %v", e, f, p.m)
		}
		p.open()
	}
}

func TestDelete(t *testing.T) { // P11.3: a head alone is written; no slot is
	p := newPair(t, 8)
	if e := p.delete(); e != api.ErrNone {
		t.Error(e)
	}
	must(t, p.commit("one"), p.commit("two"))
	p.both(func(d *disk.Disk) { d.Arm(2) }) // the head, and a flush
	must(t, p.delete())
	if e := p.delete(); e != api.ErrNone { // told, though the disk is off
		t.Error(e)
	}
	p.crash()
	p.open()
	if p.m != (state{age: 3}) || keptAt(p.d, 2) != padded("two") || keptAt(p.d, 5) != padded("one") {
		t.Errorf("%v, %q, %q", p.m, keptAt(p.d, 2), keptAt(p.d, 5))
	}
	if e := p.delete(); e != api.ErrNone {
		t.Error(e)
	}
	must(t, p.commit("four"), p.delete())
	p.open()
	if p.m != (state{age: 5}) {
		t.Errorf("%v", p.m)
	}
}

func TestWhereTheDiskIsOff(t *testing.T) { // P11.2, P11.3: the error is told, and nothing else is done; the store tells its old image, and writes that age again
	for _, image := range []string{"", "a", strings.Repeat("b", 64), strings.Repeat("c", 65), strings.Repeat("d", 192), "delete"} {
		do := func(p *pair) api.Errno {
			if image == "delete" {
				return p.delete()
			}
			return p.commit(image)
		}
		need := 3 + (len(image)+63)/64
		if image == "delete" {
			need = 2
		}
		for calls := range need + 2 {
			for again := range 3 {
				p := newPair(t, 9)
				must(t, p.commit("old"), p.commit("newer"))
				p.arm(calls)
				want := api.OK
				if calls < need {
					want = api.ErrDisk
				}
				if e := do(p); e != want || (e == api.OK) != (p.m.age == 3) {
					t.Fatalf("%d calls: %v, %v", calls, e, p.m)
				}
				if _, e := p.d.Read(0); (e == api.OK) != (calls > need) {
					t.Fatalf("%d calls: %v", calls, e)
				}
				was := p.m
				switch again {
				case 0:
					p.crash()
				case 1:
					p.crash(true, true, true)
				case 2:
					p.arm(99)
				}
				if p.m != was {
					t.Fatalf("%v, not %v", p.m, was)
				}
				// The store goes on, and so does one that is opened.
				other := *p
				must(t, p.commit("what comes behind it"))
				if p.m.age != was.age+1 {
					t.Fatalf("%v", p.m)
				}
				other.open()
				must(t, other.commit("and behind that"), other.delete())
				other.open()
			}
		}
	}
}

func TestWhatElseBecomesOfTheDisk(t *testing.T) { // P11.3, R6: nothing that a store tells or writes hangs on it
	p := newPair(t, 8)
	must(t, p.commit("one"), p.commit("two"))
	for i := range 8 {
		for bit := range 512 {
			p.rot(i, bit)
		}
	}
	must(t, p.commit("three"))
	p.open()
	must(t, p.commit("four"))
	for i := range 8 {
		p.lay(i, strings.Repeat("x", 64))
	}
	must(t, p.delete())
	p.open()
	if p.m != (state{age: 5}) {
		t.Errorf("%v", p.m)
	}
	// Even another disk in its place: the image lies where it would on the old one.
	p = newPair(t, 8)
	must(t, p.commit("one"))
	*p.d = *disk.New(12)
	if told(p.s) != p.m || p.s.Room() != 192 {
		t.Errorf("%v, %d", told(p.s), p.s.Room())
	}
	must(t, p.s.Commit([]byte("two")), p.s.Commit([]byte("three")))
	if keptAt(p.d, 2) != padded("two") || keptAt(p.d, 5) != padded("three") {
		t.Errorf("%q", p.d.Kept())
	}
	if e := p.s.Commit(make([]byte, 193)); e != api.ErrLong {
		t.Error(e)
	}
}

func TestAnyErrorOfTheDisk(t *testing.T) { // P11.2, P11.3: one that lacks sectors, in the place of what was opened, tells another error; nothing else is done, so what waits there waits on
	for _, x := range []struct {
		sectors, age int
		do           func(s *slots.Store) api.Errno
		want         api.Errno
		waits        []int
	}{
		{3, 3, func(s *slots.Store) api.Errno { return s.Commit([]byte("four")) }, api.OK, nil},
		{5, 4, func(s *slots.Store) api.Errno { return s.Commit([]byte("five")) }, api.ErrRange, []int{0}},
		{6, 4, func(s *slots.Store) api.Errno { return s.Commit(make([]byte, 65)) }, api.ErrRange, []int{0, 5}},
		{1, 4, func(s *slots.Store) api.Errno { return s.Commit(nil) }, api.ErrRange, nil}, // behind the first flush
		{1, 3, func(s *slots.Store) api.Errno { return s.Delete() }, api.OK, nil},
		{1, 4, func(s *slots.Store) api.Errno { return s.Delete() }, api.ErrRange, []int{0}},
	} {
		p := aged(t, 8, x.age, true)
		*p.d = *disk.New(x.sectors)
		must(t, p.d.Write(0, []byte("waits")))
		if e := x.do(p.s); e != x.want || e != api.OK && told(p.s) != p.m || !slices.Equal(p.d.Waits(), x.waits) {
			t.Errorf("%d sectors, age %d: %v, %v, %v wait", x.sectors, x.age, e, told(p.s), p.d.Waits())
		}
	}
}

func TestTwoStoresOfOneDisk(t *testing.T) { // P11.3, R6: each knows what it did itself
	p := newPair(t, 8)
	must(t, p.commit("one"))
	other := *p
	other.open()
	must(t, p.commit("two"), p.commit("three"), p.commit("four"))
	if told(other.s) != (state{1, true, "one"}) {
		t.Errorf("%v", told(other.s))
	}
	must(t, other.delete())
	if other.m != (state{age: 2}) || told(p.s) != (state{4, true, "four"}) {
		t.Errorf("%v, %v", other.m, told(p.s))
	}
	other.open()
	if other.m != (state{3, true, "three"}) { // its head of age 2 lies where that of age 4 was
		t.Errorf("%v", other.m)
	}
	must(t, p.commit("five"))
	other.open()
	if other.m != (state{5, true, "five"}) {
		t.Errorf("%v", other.m)
	}
}

func TestStoresOfTheirOwn(t *testing.T) { // R6: what is done with one is done with none of another disk
	l := []*pair{newPair(t, 6), newPair(t, 6), newPair(t, 9)}
	c := chance(5)
	for range 2000 {
		step(&c, l[c.upTo(2)])
		for _, p := range l {
			p.same()
		}
	}
}

// spoil overwrites a list of bytes, and what room is behind it.
func spoil(b []byte) {
	b = b[:cap(b)]
	for i := range b {
		b[i] ^= 0xff
	}
}

func TestMemoryOfItsOwn(t *testing.T) { // R5: what is handed in, and answered, is overwritten afterwards
	for _, size := range []int{0, 1, 63, 64, 65, 128, 150, 192} {
		p := newPair(t, 8)
		c := chance(size)
		for range 3 {
			image := c.text(size)
			b := append(make([]byte, 0, 300), image...)
			must(t, p.m.commit(p.twin, image), p.s.Commit(b))
			if string(b) != image {
				t.Fatalf("%x has become %x", image, b)
			}
			spoil(b)
			p.same()
			one, _ := p.s.Image()
			two, _ := p.s.Image()
			spoil(one)
			if string(two) != image {
				t.Errorf("%x", two)
			}
			p.same()
			must(t, p.commit("another"))
			if string(two) != image {
				t.Errorf("%x", two)
			}
			must(t, p.delete())
			if string(two) != image {
				t.Errorf("%x", two)
			}
			must(t, p.commit(image))
			p.open()
			one, _ = p.s.Image()
			spoil(one)
			p.same()
			must(t, p.commit(image))
		}
	}
}

// step does anything, to any pair.
func step(c *chance, p *pair) {
	p.t.Helper()
	sectors := p.d.Len()
	switch c.upTo(11) {
	case 0, 1, 2, 3:
		size := c.upTo(room(sectors))
		if c.upTo(3) == 0 {
			size = []int{0, 1, 64, 65, room(sectors), room(sectors) + 1, 2 * room(sectors)}[c.upTo(6)]
		}
		p.commit(c.text(size))
	case 4:
		p.delete()
	case 5, 6:
		p.open()
	case 7:
		p.arm(c.upTo(8))
	case 8, 9:
		p.crash(c.bools(c.upTo(4))...)
	case 10:
		p.rot(c.upTo(sectors-1), c.upTo(511))
	case 11:
		i, b := c.upTo(sectors-1), c.text(c.upTo(64))
		p.both(func(d *disk.Disk) { d.Write(i, []byte(b)) })
	}
}

func TestLongRuns(t *testing.T) { // P11.1, P11.2, P11.3
	c := chance(6)
	for _, sectors := range []int{4, 5, 6, 7, 8, 9, 10, 17} {
		for range 60 {
			p := newPair(t, sectors)
			for range 60 {
				step(&c, p)
			}
		}
	}
}
