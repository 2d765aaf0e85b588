package parcel_test

import (
	"bytes"
	"fmt"
	"math"
	"slices"
	"strings"
	"testing"

	"diapause/api"
	"diapause/parcel"
)

// short is bytes as a text, of long ones the beginning.
func short(b []byte) string {
	if len(b) > 200 {
		return fmt.Sprintf("%x.. (%d bytes)", b[:200], len(b))
	}
	return fmt.Sprintf("%x", b)
}

// tell is sections as a text.
func tell(l []api.Section) string {
	var t []string
	for _, s := range l {
		t = append(t, fmt.Sprintf("%d:%s", s.Kind, short(s.Body)))
	}
	return strings.Join(t, " ")
}

// some are sections with short bodies, of these kinds.
func some(kinds ...int) []api.Section {
	var l []api.Section
	for i, kind := range kinds {
		l = append(l, api.Section{Kind: kind, Body: []byte("a body")[i%6:]})
	}
	return l
}

// upTo are the numbers from 1 on, so many.
func upTo(many int) []int {
	var l []int
	for i := range many {
		l = append(l, i+1)
	}
	return l
}

// wild are numbers that are no kinds.
func wild() []int {
	return []int{0, -1, -2, -255, -256, 256, 257, 511, 512, 513, 65536, 65537, 1 << 32, 1<<32 + 1, 1<<32 + 7, 1 << 62, math.MaxInt, math.MinInt, math.MinInt + 1}
}

func TestExamples(t *testing.T) { // P10.1, P10.2
	want := "DPZ1\x00\xe2\xaa\x2a\x07\x1c\xdf\x44\x21"
	b, e := parcel.Pack(nil)
	if e != api.OK || string(b) != want {
		t.Errorf("Pack(nil) = %q, %v", b, e)
	}
	if l, e := parcel.Unpack([]byte(want)); e != api.OK || len(l) != 0 {
		t.Errorf("Unpack(%q) = %v, %v", want, l, e)
	}
	// The checks of 123456789 and of nothing stand in chapter 2.
	b, e = parcel.Pack([]api.Section{{Kind: 1, Body: []byte("123456789")}, {Kind: 200}})
	if e != api.OK || len(b) != 36 || string(b[:5]) != "DPZ1\x02" || string(b[9:23]) != "\x01\x09\x00\x26\x39\xf4\xcb\xc8\x00\x00\x00\x00\x00\x00" || string(b[27:]) != "123456789" {
		t.Errorf("%q, %v", b, e)
	}
}

func TestPackOfAnyCount(t *testing.T) { // P10.1
	c := chance(1)
	for many := range maxSections + 1 {
		for range 50 {
			if b, e := pack(t, c.sections(many, 40)); e != api.OK || b[4] != byte(many) {
				t.Fatalf("%d sections: %x, %v", many, b, e)
			}
		}
	}
	for _, many := range []int{17, 18, 32, 255, 256, 257, 272, 65536} {
		if b, e := pack(t, some(upTo(many)...)); e != api.ErrFull || len(b) != 0 {
			t.Errorf("%d sections: %x, %v", many, b, e)
		}
	}
}

func TestPackOfEachKind(t *testing.T) { // P10.1: each one, and each pair
	for _, kind := range append(upTo(maxKind), wild()...) {
		want := api.ErrKind
		if kind >= 1 && kind <= maxKind {
			want = api.OK
		}
		if b, e := pack(t, some(kind)); e != want || e == api.OK && int(b[9]) != kind {
			t.Errorf("kind %d: %x, %v", kind, b, e)
		}
	}
	for one := range maxKind + 3 {
		for two := range maxKind + 3 {
			_, e := pack(t, some(one-1, two-1))
			if can := one-1 >= 1 && two > one && two-1 <= maxKind; can != (e == api.OK) {
				t.Fatalf("kinds %d and %d: %v", one-1, two-1, e)
			}
		}
	}
}

func TestPackOfOneWrongKind(t *testing.T) { // P10.1: at each place
	right := []int{1, 3, 5, 6, 7, 20, 40, 60, 80, 100, 127, 128, 129, 200, 250, 255}
	pack(t, some(right...))
	for many := range maxSections + 1 {
		for at := range many {
			for _, kind := range append(wild(), right...) {
				l := slices.Clone(right[:many])
				l[at] = kind
				pack(t, some(l...))
			}
		}
	}
	for at := range maxSections {
		l := slices.Clone(right)
		l[at] = right[max(at-1, 0)]
		if _, e := pack(t, some(l...)); at > 0 && e != api.ErrKind {
			t.Errorf("the kind at %d twice: %v", at, e)
		}
	}
}

func TestPackOfAnyLength(t *testing.T) { // P10.1
	c := chance(2)
	for _, many := range []int{0, 1, 2, 3, 7, 127, 128, 254, 255, 256, 257, 511, 512, 513, 1000, 32767, 32768, 65279, 65280, 65281, 65534, 65535} {
		l := []api.Section{{Kind: 9, Body: c.bytes(many)}}
		if b, e := pack(t, l); e != api.OK || len(b) != 20+many || int(b[10])+256*int(b[11]) != many {
			t.Errorf("%d bytes: %s, %v", many, short(b), e)
		}
	}
	for _, many := range []int{65536, 65537, 65791, 65792, 1 << 17, 1 << 20, 1<<24 + 1} {
		if b, e := pack(t, []api.Section{{Kind: 9, Body: make([]byte, many)}}); e != api.ErrLong || len(b) != 0 {
			t.Errorf("%d bytes: %s, %v", many, short(b), e)
		}
	}
}

func TestPackOfOneLongBody(t *testing.T) { // P10.1: at each place
	long := make([]byte, maxBody+1)
	for many := range maxSections + 1 {
		for at := range many {
			l := some(upTo(many)...)
			l[at].Body = long
			if b, e := pack(t, l); e != api.ErrLong || len(b) != 0 {
				t.Fatalf("of %d the body at %d: %v", many, at, e)
			}
			l[at].Body = long[1:]
			if _, e := pack(t, l); e != api.OK {
				t.Fatalf("of %d the body at %d: %v", many, at, e)
			}
		}
	}
}

func TestFirstErrorOfPack(t *testing.T) { // P10.1, R2: all three at all places
	long := make([]byte, maxBody+1)
	for _, many := range []int{1, 2, 3, maxSections, maxSections + 1} {
		for bad := range many {
			for at := range many {
				l := some(upTo(many)...)
				l[at].Body = long
				l[bad].Kind = 0
				want := api.ErrKind
				if many > maxSections {
					want = api.ErrFull
				}
				if b, e := pack(t, l); e != want || len(b) != 0 {
					t.Fatalf("of %d the kind at %d, the body at %d: %v", many, bad, at, e)
				}
				l[bad].Kind = 300
				if _, e := pack(t, l); e != want {
					t.Fatalf("of %d the kind at %d, the body at %d: %v", many, bad, at, e)
				}
			}
		}
	}
}

func TestGreatestImage(t *testing.T) { // P10.1, P10.2, P10.4
	c := chance(3)
	var l []api.Section
	for i := range maxSections {
		l = append(l, api.Section{Kind: 240 + i, Body: c.bytes(maxBody)})
	}
	b, e := pack(t, l)
	if e != api.OK || len(b) != 125+16*65535 {
		t.Fatal(len(b), e)
	}
	if x, e := unpack(t, b); e != api.OK || !alike(x, l) {
		t.Error(e)
	}
	if _, e := unpack(t, b[:len(b)-1]); e != api.ErrShort {
		t.Error(e)
	}
	if _, e := unpack(t, append(slices.Clone(b), 0)); e != api.ErrTail {
		t.Error(e)
	}
	for i := range l {
		b[len(b)-1-i*maxBody] ^= 0x80
		if _, e := unpack(t, b); e != api.ErrSum {
			t.Error(i, e)
		}
		b[len(b)-1-i*maxBody] ^= 0x80
	}
}

// samples are sections that can be, of many kinds.
func samples() [][]api.Section {
	c := chance(4)
	l := [][]api.Section{
		nil,
		{{Kind: 1}},
		{{Kind: 255, Body: []byte{0}}},
		{{Kind: 1, Body: []byte("abc")}, {Kind: 7}, {Kind: 255, Body: []byte{0}}},
		{{Kind: 3}, {Kind: 4}, {Kind: 5, Body: []byte("last")}},
		{{Kind: 3, Body: []byte{255, 255, 255, 255}}, {Kind: 4, Body: []byte{0, 0, 0, 0}}},
		{{Kind: 100, Body: c.bytes(256)}},
		{{Kind: 100, Body: c.bytes(255)}, {Kind: 101, Body: c.bytes(300)}},
	}
	for many := range maxSections + 1 {
		l = append(l, c.sections(many, 9))
	}
	return l
}

func TestUnpackOfEachBeginning(t *testing.T) { // P10.2
	for _, l := range samples() {
		b, _ := pack(t, l)
		for many := range b {
			if x, e := unpack(t, b[:many]); e != api.ErrShort || len(x) != 0 {
				t.Fatalf("of %s the first %d bytes: %s, %v", tell(l), many, tell(x), e)
			}
		}
		for _, more := range []string{"\x00", "a", "DPZ1", strings.Repeat("\x00", 64), string(b)} {
			if x, e := unpack(t, append(slices.Clone(b), more...)); e != api.ErrTail || len(x) != 0 {
				t.Fatalf("%s, and %q: %s, %v", tell(l), more, tell(x), e)
			}
		}
	}
}

func TestUnpackOfFewBytes(t *testing.T) { // P10.2: too few come ahead of all else
	for many := range 9 {
		for _, b := range []string{strings.Repeat("\x00", many), "DPZ1\x00\xe2\xaa\x2a\x07"[:many], "DPZ2\x00\xe2\xaa\x2a\x07"[:many], "DPZ1\x11abcd"[:many], strings.Repeat("\xff", many)} {
			if l, e := unpack(t, []byte(b)); e != api.ErrShort || len(l) != 0 {
				t.Errorf("%q: %v, %v", b, l, e)
			}
		}
	}
	if l, e := parcel.Unpack(nil); e != api.ErrShort || len(l) != 0 {
		t.Error(l, e)
	}
}

func TestUnpackOfOtherMagic(t *testing.T) { // P10.2: each other byte, with checks that are right for it
	for at := range 4 {
		for x := range 256 {
			magic := []byte("DPZ1")
			magic[at] = byte(x)
			d := drafted(some(1, 2))
			d.magic = string(magic)
			want := api.ErrMagic
			if d.magic == "DPZ1" {
				want = api.OK
			}
			if _, e := unpack(t, d.bytes()); e != want {
				t.Fatalf("%q: %v", magic, e)
			}
			if _, e := unpack(t, d.bytes()[:9]); e != max(want, api.ErrShort) {
				t.Fatalf("%q alone: %v", magic, e)
			}
		}
	}
}

func TestUnpackOfAnyCount(t *testing.T) { // P10.2: each count with rows for it, and with others
	for many := range 256 {
		d := draft{magic: "DPZ1", many: many}
		for i := range many {
			d.lines = append(d.lines, line{kind: byte(i + 1)})
		}
		want := api.OK
		if many > maxSections {
			want = api.ErrFull
		}
		if l, e := unpack(t, d.bytes()); e != want || e == api.OK && len(l) != many {
			t.Fatalf("%d sections: %v, %v", many, l, e)
		}
		for _, other := range []int{0, 1, 15, 16, 17, many - 1, many + 1} {
			d.many = other
			unpack(t, d.bytes())
		}
	}
}

func TestUnpackOfAnyKinds(t *testing.T) { // P10.2: each one, each pair, each wrong one at each place
	for one := range 256 {
		want := api.OK
		if one == 0 {
			want = api.ErrKind
		}
		d := drafted(some(one))
		if _, e := unpack(t, d.bytes()); e != want {
			t.Fatalf("kind %d: %v", one, e)
		}
		for two := range 256 {
			_, e := unpack(t, drafted(some(one, two)).bytes())
			if can := one > 0 && two > one; can != (e == api.OK) || !can && e != api.ErrKind {
				t.Fatalf("kinds %d and %d: %v", one, two, e)
			}
		}
	}
	for at := range maxSections {
		for kind := range 256 {
			d := drafted(some(10, 20, 30, 40, 50, 60, 70, 80, 90, 100, 110, 120, 130, 140, 150, 160))
			d.lines[at].kind = byte(kind)
			_, e := unpack(t, d.bytes())
			if can := kind > 10*at && (kind < 10*(at+2) || at == maxSections-1); can != (e == api.OK) || !can && e != api.ErrKind {
				t.Fatalf("kind %d at %d: %v", kind, at, e)
			}
		}
	}
}

func TestUnpackOfOtherSizes(t *testing.T) { // P10.2: each body's size another one, in a table that is right
	for _, size := range []int{0, 1, 2, 4, 5, 6, 7, 20, 255, 256, 261, 65535} {
		for at := range 3 {
			d := drafted([]api.Section{{Kind: 1, Body: []byte("one..")}, {Kind: 2, Body: []byte("two..")}, {Kind: 3, Body: []byte("three")}})
			d.lines[at].size = uint16(size)
			want := api.OK
			switch {
			case size > 5:
				want = api.ErrShort
			case size < 5:
				want = api.ErrTail
			}
			if _, e := unpack(t, d.bytes()); e != want {
				t.Errorf("size %d at %d: %v", size, at, e)
			}
		}
	}
	// As many bytes in all, cut at another place.
	d := drafted(some(1, 2))
	d.lines[0].size++
	d.lines[1].size--
	if _, e := unpack(t, d.bytes()); e != api.ErrSum {
		t.Error(e)
	}
}

func TestUnpackOfOtherChecks(t *testing.T) { // P10.2: each bit of each check, with all others right
	for _, l := range samples() {
		for bit := range 32 {
			d := drafted(l)
			d.head = 1 << bit
			if _, e := unpack(t, d.bytes()); e != api.ErrSum {
				t.Fatalf("%s: bit %d of the head's check: %v", tell(l), bit, e)
			}
			d = drafted(l)
			d.table = 1 << bit
			if _, e := unpack(t, d.bytes()); e != api.ErrSum {
				t.Fatalf("%s: bit %d of the table's check: %v", tell(l), bit, e)
			}
			for at := range l {
				d = drafted(l)
				d.lines[at].sum ^= 1 << bit
				if _, e := unpack(t, d.bytes()); e != api.ErrSum {
					t.Fatalf("%s: bit %d of the check of body %d: %v", tell(l), bit, at, e)
				}
			}
		}
	}
}

// fault is something wrong with an image, and how that is told.
type fault struct {
	name string
	e    api.Errno
	do   func(d *draft)
}

// faults are in the order in which P10.2 names them.
func faults() []fault {
	return []fault{
		{"magic", api.ErrMagic, func(d *draft) { d.magic = "DPZ0" }},
		{"head's check", api.ErrSum, func(d *draft) { d.head = 0x01020304 }},
		{"17", api.ErrFull, func(d *draft) { d.many = 17 }},
		{"table's check", api.ErrSum, func(d *draft) { d.table = 0x80000000 }},
		{"kind 0", api.ErrKind, func(d *draft) { d.lines[0].kind = 0 }},
		{"kinds", api.ErrKind, func(d *draft) { d.lines[2].kind = d.lines[1].kind }},
		{"too few", api.ErrShort, func(d *draft) { d.rest = d.rest[:len(d.rest)-2] }},
		{"too many", api.ErrTail, func(d *draft) { d.rest = append(d.rest[:len(d.rest):len(d.rest)], "tail"...) }},
		{"body's check", api.ErrSum, func(d *draft) { d.lines[1].sum ^= 0x10000 }},
		{"body", api.ErrSum, func(d *draft) { d.rest = append([]byte{d.rest[0] ^ 4}, d.rest[1:]...) }},
	}
}

func TestFirstErrorOfUnpack(t *testing.T) { // P10.2, R2: all sets of faults, and all beginnings of what comes of them
	all := faults()
	for set := range 1 << len(all) {
		if set>>6&3 == 3 {
			continue // there can't be both too few bytes and too many
		}
		d := drafted(some(4, 5, 9))
		want, name := api.OK, ""
		for i, f := range all {
			if set>>i&1 == 0 {
				continue
			}
			f.do(&d)
			if want == api.OK {
				want, name = f.e, f.name
			}
		}
		b := d.bytes()
		if l, e := unpack(t, b); e != want || e != api.OK && len(l) != 0 {
			t.Errorf("faults %010b: %v, not %v (%s)", set, e, want, name)
		}
		for many := range b {
			unpack(t, b[:many])
		}
	}
}

func TestUnpackOfEachOtherByte(t *testing.T) { // P10.2, P10.4: as it is, and with the checks mended
	for _, l := range samples()[:10] {
		b, _ := pack(t, l)
		for at := range b {
			for x := range 256 {
				was := b[at]
				b[at] = byte(x)
				if _, e := unpack(t, b); (e == api.OK) != (b[at] == was) {
					t.Fatalf("%s: byte %d is %d: %v", tell(l), at, x, e)
				}
				unpack(t, mended(b))
				b[at] = was
			}
		}
	}
}

func TestUnpackOfAnyBytes(t *testing.T) { // P10.2, R1
	c := chance(5)
	for range 40000 {
		l := c.sections(c.upTo(4), 6)
		b := drafted(l).bytes()
		for range c.upTo(3) {
			at := c.upTo(len(b) - 1)
			switch c.upTo(3) {
			case 0:
				b[at] = byte(c.upTo(255))
			case 1:
				b = slices.Delete(b, at, min(at+1+c.upTo(8), len(b)))
			case 2:
				b = slices.Insert(b, at, c.bytes(1+c.upTo(8))...)
			case 3:
				b = b[:at]
			}
			if len(b) < 9 {
				break
			}
			if c.upTo(1) == 1 {
				b = mended(b)
			}
		}
		if x, e := unpack(t, b); e == api.OK {
			if again, e := pack(t, x); e != api.OK || !bytes.Equal(again, b) {
				t.Fatalf("%x is unpacked as %s, which is packed as %x", b, tell(x), again)
			}
		}
		unpack(t, c.bytes(c.upTo(40)))
		unpack(t, append([]byte("DPZ1"), c.bytes(c.upTo(40))...))
	}
}

func TestFind(t *testing.T) { // P10.3
	c := chance(6)
	for range 2000 {
		l := c.sections(c.upTo(maxSections), 5)
		for range c.upTo(3) { // kinds twice, and those that can't be
			if len(l) > 0 {
				l[c.upTo(len(l)-1)].Kind = append(wild(), l[c.upTo(len(l)-1)].Kind)[c.upTo(len(wild()))]
			}
		}
		for _, kind := range append(wild(), 1, 2, 100, 254, 255) {
			find(t, l, kind)
		}
		for _, s := range l {
			if _, is := find(t, l, s.Kind); !is {
				t.Fatalf("Find(%s, %d) tells false", tell(l), s.Kind)
			}
		}
	}
}

func TestFindExamples(t *testing.T) { // P10.3
	l := []api.Section{{Kind: 9, Body: []byte("nine")}, {Kind: 2, Body: []byte("two")}, {Kind: 5}, {Kind: 2, Body: []byte("again")}, {Kind: 5, Body: []byte("again")}, {Kind: -3, Body: []byte("minus")}, {Kind: 0, Body: []byte("zero")}}
	for _, x := range []struct {
		kind int
		want string
		is   bool
	}{{9, "nine", true}, {2, "two", true}, {5, "", true}, {-3, "minus", true}, {0, "zero", true}, {1, "", false}, {3, "", false}, {253, "", false}, {math.MaxInt, "", false}, {math.MinInt, "", false}} {
		if b, is := find(t, l, x.kind); string(b) != x.want || is != x.is {
			t.Errorf("Find(%d) = %q, %v", x.kind, b, is)
		}
	}
	if b, is := find(t, []api.Section{{Kind: 300}}, 44); len(b) != 0 || is {
		t.Errorf("%q, %v", b, is)
	}
	for _, kind := range append(wild(), 1, 255) {
		for _, l := range [][]api.Section{nil, {}} {
			if b, is := parcel.Find(l, kind); len(b) != 0 || is {
				t.Errorf("of none Find(%d) = %q, %v", kind, b, is)
			}
		}
	}
	many := some(upTo(300)...)
	many[299].Body = make([]byte, maxBody+9)
	if b, is := find(t, many, 300); len(b) != maxBody+9 || !is {
		t.Error(len(b), is)
	}
}

func TestThereAndBack(t *testing.T) { // P10.4
	c := chance(7)
	for many := range maxSections + 1 {
		for _, most := range []int{0, 1, 5, 300, 3000} {
			for range 20 {
				l := c.sections(many, most)
				b, e := pack(t, l)
				if e != api.OK {
					t.Fatal(e)
				}
				x, e := unpack(t, b)
				if e != api.OK || !alike(x, l) {
					t.Fatalf("%s is unpacked as %s, %v", tell(l), tell(x), e)
				}
				if again, e := pack(t, x); e != api.OK || !bytes.Equal(again, b) {
					t.Fatalf("%s is packed as %s, %v", tell(x), short(again), e)
				}
				for _, s := range l {
					if body, is := find(t, x, s.Kind); !is || !bytes.Equal(body, s.Body) {
						t.Fatalf("%d: %x, %v", s.Kind, body, is)
					}
				}
			}
		}
	}
}

// turned is bytes of which some in a row are turned over, from a bit on: those that pattern has, its lowest bit first.
func turned(b []byte, from int, pattern uint32) []byte {
	o := slices.Clone(b)
	for bit := range 32 {
		if at := from + bit; pattern>>bit&1 == 1 && at/8 < len(o) {
			o[at/8] ^= 1 << (at % 8)
		}
	}
	return o
}

func TestWhatDiffersInARow(t *testing.T) { // P10.4: from each bit on, all pairs of bits within 32, all runs, and some patterns
	c := chance(8)
	for _, l := range samples()[:8] {
		b, _ := pack(t, l)
		for from := range 8 * len(b) {
			patterns := []uint32{1, 0xedb88321, 0xffffffff, uint32(c.next()) | 1, uint32(c.next()) | 1, uint32(c.next())<<16 | 1}
			for bit := 1; bit < 32; bit++ {
				patterns = append(patterns, 1<<bit|1, 1<<bit-1)
			}
			for _, pattern := range patterns {
				if x, e := parcel.Unpack(turned(b, from, pattern)); e == api.OK || len(x) != 0 {
					t.Fatalf("%s: %08x from bit %d on: %s, %v", tell(l), pattern, from, tell(x), e)
				}
			}
		}
	}
}

func TestNilAndEmpty(t *testing.T) { // R4
	none, _ := pack(t, nil)
	empty, e := pack(t, []api.Section{})
	if e != api.OK || !bytes.Equal(none, empty) {
		t.Errorf("%x, %x", none, empty)
	}
	none, _ = pack(t, []api.Section{{Kind: 3, Body: nil}, {Kind: 4, Body: nil}})
	empty, e = pack(t, []api.Section{{Kind: 3, Body: []byte{}}, {Kind: 4, Body: []byte{}}})
	if e != api.OK || !bytes.Equal(none, empty) {
		t.Errorf("%x, %x", none, empty)
	}
	if l, e := parcel.Unpack([]byte{}); e != api.ErrShort || len(l) != 0 {
		t.Error(l, e)
	}
	for _, body := range [][]byte{nil, {}} {
		if b, is := find(t, []api.Section{{Kind: 3, Body: body}}, 3); !is || len(b) != 0 {
			t.Error(b, is)
		}
	}
}

// spoil overwrites bytes, and what room is behind them.
func spoil(b []byte) {
	b = b[:cap(b)]
	for i := range b {
		b[i] ^= 0xff
	}
}

func TestRoomBehindTellsNothing(t *testing.T) { // R5, R6: what lies behind a list is neither read nor written
	l := []api.Section{{Kind: 1, Body: []byte("abcdef")[:3]}, {Kind: 2, Body: []byte("ghijkl")[:2]}, {Kind: 3, Body: []byte("more")}}
	b, _ := pack(t, l[:2])
	clipped, _ := pack(t, []api.Section{{Kind: 1, Body: []byte("abc")}, {Kind: 2, Body: []byte("gh")}})
	if !bytes.Equal(b, clipped) || string(l[0].Body[:6]) != "abcdef" || string(l[1].Body[:6]) != "ghijkl" || l[2].Kind != 3 {
		t.Errorf("%x, %x; %s", b, clipped, tell(l))
	}
	if body, is := find(t, l[:2], 3); is {
		t.Errorf("%q is found behind the list", body)
	}
	whole := append(slices.Clone(b), "behind"...)
	for many := range b {
		if _, e := unpack(t, whole[:many]); e != api.ErrShort {
			t.Errorf("%d bytes: %v", many, e)
		}
	}
	if x, e := unpack(t, whole[:len(b)]); e != api.OK || !alike(x, l[:2]) {
		t.Error(tell(x), e)
	}
	if string(whole) != string(b)+"behind" {
		t.Errorf("%q", whole)
	}
}

func TestMemoryOfItsOwn(t *testing.T) { // R5, and more than it asks: an answer shares nothing with what was handed in, nor parts of one answer with each other
	l := []api.Section{{Kind: 1, Body: []byte("abc")}, {Kind: 2, Body: []byte("defg")}, {Kind: 3}, {Kind: 4, Body: []byte("h")}}
	was := own(l)
	b, _ := parcel.Pack(l)
	other, _ := parcel.Pack(l)
	image := string(b)
	spoil(other)
	if !alike(l, was) || string(b) != image {
		t.Errorf("%s; %x", tell(l), b)
	}
	x, _ := parcel.Unpack(b)
	y, _ := parcel.Unpack(b)
	for i := range x {
		body := string(x[i].Body)
		for k := range x {
			if k != i {
				spoil(x[k].Body)
			}
		}
		if string(x[i].Body) != body || string(b) != image || !alike(y, was) {
			t.Errorf("body %d: %q, %q; %x; %s", i, body, x[i].Body, b, tell(y))
		}
	}
	spoil(b)
	if !alike(y, was) {
		t.Errorf("%s", tell(y))
	}
	for _, s := range l {
		one, _ := parcel.Find(l, s.Kind)
		two, _ := parcel.Find(l, s.Kind)
		spoil(one)
		if string(two) != string(s.Body) || !alike(l, was) {
			t.Errorf("%q; %s", two, tell(l))
		}
	}
}
