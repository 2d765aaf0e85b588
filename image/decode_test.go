package image_test

import (
	"bytes"
	"encoding/binary"
	"hash/crc32"
	"slices"
	"strings"
	"testing"

	"diapause/api"
	"diapause/image"
	"diapause/parcel"
)

// encoded is the image of a scene that can be.
func encoded(t *testing.T, s api.Scene) []byte {
	t.Helper()
	b, e := encode(t, s)
	tell(t, e, api.OK, s)
	return b
}

func TestDecodeOfWhatIsNoImage(t *testing.T) { // P14.2: what chapter 10 tells, ahead of all else
	b := encoded(t, small())
	for many := range b {
		_, e := decode(t, b[:many])
		tell(t, e, api.ErrShort, many)
	}
	for _, more := range []string{"\x00", "a", "DPZ1", string(b)} {
		_, e := decode(t, append(slices.Clone(b), more...))
		tell(t, e, api.ErrTail, more)
	}
	for at := range b {
		for _, by := range []byte{1, 0x80, 0xff} {
			x := slices.Clone(b)
			x[at] ^= by
			want := api.ErrSum
			if at < 4 {
				want = api.ErrMagic
			}
			if s, e := decode(t, x); e != want || len(s.Groups)+len(s.Tasks) != 0 {
				t.Errorf("byte %d by %x: %v, %v", at, by, s, e)
			}
		}
	}
	for _, x := range []string{"", "DPZ1", strings.Repeat("\x00", 8)} {
		_, e := decode(t, []byte(x))
		tell(t, e, api.ErrShort, x)
	}
	full := append([]byte("DPZ1\x11"), 0, 0, 0, 0)
	binary.LittleEndian.PutUint32(full[5:], crc32.ChecksumIEEE(full[:5]))
	_, e := decode(t, full)
	tell(t, e, api.ErrFull, full)
	for _, kinds := range [][]int{{0, 1, 2, 3}, {1, 2, 4, 3}, {1, 1, 2, 3}, {4, 3, 2, 1}} {
		l := modelBodies(small()).sections()
		for i, kind := range kinds {
			l[i].Kind = kind
		}
		_, e := decode(t, sealed(l))
		tell(t, e, api.ErrKind, kinds)
	}
}

func TestDecodeOfAnyKinds(t *testing.T) { // P14.2: all sets of the kinds 1 to 8, with the bodies of a scene, with none, and with such as have no form
	right := modelBodies(small())
	for _, x := range []struct {
		body func(kind int) []byte
		want api.Errno
	}{
		{func(kind int) []byte { return right[(kind-1)%4] }, api.OK},
		{func(kind int) []byte { return nil }, api.ErrShort},
		{func(kind int) []byte { return []byte("five?") }, api.ErrForm},
	} {
		for set := range 256 {
			var l []api.Section
			for kind := 1; kind <= 8; kind++ {
				if set>>(kind-1)&1 == 1 {
					l = append(l, api.Section{Kind: kind, Body: x.body(kind)})
				}
			}
			want := api.ErrKind
			if set == 0b1111 {
				want = x.want
			}
			_, e := decode(t, sealed(l))
			tell(t, e, want, set)
		}
	}
}

func TestDecodeOfOtherKinds(t *testing.T) { // P14.2: one at each place, and with the bodies in each order
	for at := range 4 {
		for kind := range 256 {
			l := modelBodies(small()).sections()
			l[at].Kind = kind
			want := api.ErrKind
			if kind == at+1 {
				want = api.OK
			}
			_, e := decode(t, sealed(l))
			tell(t, e, want, kind)
		}
		for kind := 5; kind < 256; kind++ { // one more
			l := append(modelBodies(small()).sections(), api.Section{Kind: kind, Body: []byte("more")[at:]})
			_, e := decode(t, sealed(l))
			tell(t, e, api.ErrKind, kind)
		}
	}
	b := modelBodies(spare(1))
	for set := range 256 {
		x := bodies{b[set&3], b[set>>2&3], b[set>>4&3], b[set>>6&3]}
		if _, e := decode(t, sealed(x.sections())); (e == api.OK) != (set == 0b11100100) {
			t.Errorf("the bodies %08b: %v", set, e)
		}
	}
}

func TestDecodeOfOtherLengths(t *testing.T) { // P14.2: each length of each body beside each one of its pair
	c := chance(3)
	s := c.scene(5, 5)
	long := modelBodies(s)
	for i := range long {
		long[i] = append(long[i], make([]byte, 30)...)
	}
	seen := map[api.Errno]int{}
	for pair := range 2 {
		for one := range len(long[2*pair]) {
			for two := range len(long[2*pair+1]) {
				b := modelBodies(s)
				b[2*pair], b[2*pair+1] = long[2*pair][:one], long[2*pair+1][:two]
				_, e := decode(t, sealed(b.sections()))
				row := [][2]int{{9, 12}, {27, 8}}[pair]
				if can := one%row[0] == 0 && two%row[1] == 0 && one/row[0] == two/row[1]; can == (e == api.ErrForm) {
					t.Fatalf("of pair %d %d and %d bytes: %v", pair, one, two, e)
				}
				seen[e]++
			}
		}
	}
	for _, e := range []api.Errno{api.OK, api.ErrForm, api.ErrArg, api.ErrNone, api.ErrShort} {
		if seen[e] == 0 {
			t.Errorf("%v was not told", e)
		}
	}
}

func TestDecodeOfSwappedCounts(t *testing.T) { // P14.2: as many bytes in all, but of other rows
	b := modelBodies(small())
	for _, x := range []bodies{
		{b[0][:27], b[1], b[2], b[3]}, {b[0], b[1][:36], b[2], b[3]}, {b[0], b[1], b[2][:54], b[3]}, {b[0], b[1], b[2], b[3][:16]},
		{b[0][:27], b[1][:36], b[2], b[3][:16]}, {b[0], b[1], nil, b[3]}, {b[0], b[1], b[2], nil}, {nil, b[1], b[2], b[3]}, {b[0], nil, b[2], b[3]},
		{nil, nil, b[2], nil}, {nil, nil, nil, b[3]}, {b[0], nil, nil, nil}, {nil, b[1], nil, nil},
	} {
		_, e := decode(t, sealed(x.sections()))
		tell(t, e, api.ErrForm, x)
	}
	_, e := decode(t, sealed(bodies{}.sections()))
	tell(t, e, api.ErrShort, "no groups")
	_, e = decode(t, sealed(bodies{nil, nil, b[2], b[3]}.sections()))
	tell(t, e, api.ErrShort, "no groups, but tasks")
	if s, e := decode(t, sealed(bodies{b[0], b[1], nil, nil}.sections())); e != api.OK || !same(s, api.Scene{Groups: small().Groups}) {
		t.Errorf("%v, %v", s, e)
	}
}

func TestDecodeOfMany(t *testing.T) { // P14.2: more than a scene may have, and as many as there is room for
	for _, x := range []struct {
		groups, tasks int
		want          api.Errno
	}{{maxEach, 2427, api.OK}, {maxEach + 1, 0, api.ErrFull}, {5461, 2427, api.ErrFull}, {1, 2427, api.OK}} {
		_, e := decode(t, sealed(modelBodies(fan(x.groups, x.tasks)).sections()))
		tell(t, e, x.want, x)
	}
	b := modelBodies(fan(1, 2427))
	b[3] = make([]byte, maxBody-7)
	_, e := decode(t, sealed(b.sections()))
	tell(t, e, api.ErrForm, "8191 places of tasks")
	b = modelBodies(fan(5461, 0))
	b[0] = make([]byte, 7281*9)
	_, e = decode(t, sealed(b.sections()))
	tell(t, e, api.ErrForm, "7281 groups, and 5461 bands")
}

func TestDecodeOfAsleep(t *testing.T) { // P14.2: each byte of each task
	for at := range small().Tasks {
		for n := range 256 {
			b := modelBodies(small())
			b[2][27*at+9] = byte(n)
			want, should := api.ErrForm, small()
			if n < 2 {
				want = api.OK
				should.Tasks[at].Asleep = n == 1
			}
			s, e := decode(t, sealed(b.sections()))
			tell(t, e, want, n)
			if e == api.OK && !same(s, should) || e != api.OK && len(s.Groups)+len(s.Tasks) != 0 {
				t.Errorf("%d of %d: %v", n, at, s)
			}
		}
	}
}

func TestDecodeOfWhatCantBe(t *testing.T) { // P14.2: what chapter 13 tells of the scene that the bytes tell
	for i, x := range wrongs() {
		b := modelBodies(x.s)
		if s, e := decode(t, sealed(b.sections())); e != x.want || len(s.Groups)+len(s.Tasks) != 0 {
			t.Errorf("%d: %v, %v, not %v", i, s, e, x.want)
		}
		if len(b[2]) == 0 { // behind an Asleep that is none
			b[2], b[3] = make([]byte, 27), make([]byte, 8)
		}
		b[2][len(b[2])-18] = 2
		_, e := decode(t, sealed(b.sections()))
		tell(t, e, api.ErrForm, i)
	}
}

func TestDecodeOfEachNumber(t *testing.T) { // P14.2: all that its bytes may tell, not only what can be
	for _, x := range spots() {
		for _, others := range []byte{0, 1, 0x7f, 0x80, 0xff} {
			for at := range x.width {
				for n := range 256 {
					b := modelBodies(spare(2))
					row := b[x.body][len(b[x.body])-[]int{9, 12, 27, 8}[x.body]:]
					for i := range x.width {
						row[x.at+i] = others
					}
					row[x.at+at] = byte(n)
					_, e := decode(t, sealed(b.sections()))
					number := uint64(told(row, x.at, x.width))
					if can := number >= uint64(x.least) && number <= uint64(x.most); can && e != api.OK && x.name != "Rem of the greatest weight" {
						t.Errorf("%s of %d: %v", x.name, number, e)
					}
				}
			}
		}
	}
}

// mended is bytes with the checks of head and table right, and those of the bodies as far as these are there: whatever lies behind is asked then.
func mended(b []byte) []byte {
	m := slices.Clone(b)
	many := int(m[4])
	end := 9 + 7*many
	if len(m) < end+4 {
		return m
	}
	at := end + 4
	for i := range many {
		size := int(m[9+7*i+1]) + int(m[9+7*i+2])<<8
		if at+size > len(m) {
			break
		}
		binary.LittleEndian.PutUint32(m[9+7*i+3:], crc32.ChecksumIEEE(m[at:at+size]))
		at += size
	}
	binary.LittleEndian.PutUint32(m[5:], crc32.ChecksumIEEE(m[:5]))
	binary.LittleEndian.PutUint32(m[end:], crc32.ChecksumIEEE(m[:end]))
	return m
}

func TestDecodeOfEachOtherByte(t *testing.T) { // P14.2, P14.3: with checks that are right for it: another scene, or none
	scenes := map[string]api.Scene{}
	for _, s := range []api.Scene{small(), chain(7, 1), chain(3, 3)} {
		b := encoded(t, s)
		for at := range b {
			for n := range 256 {
				x := slices.Clone(b)
				x[at] = byte(n)
				m := mended(x)
				o, e := decode(t, m)
				if e != api.OK {
					continue
				}
				if same(o, s) != bytes.Equal(m, b) {
					t.Fatalf("%x and %x are both %v", m, b, s)
				}
				scenes[string(m)] = o
			}
		}
	}
	for b, s := range scenes {
		if again, e := encode(t, s); e != api.OK || string(again) != b {
			t.Fatalf("%x is decoded as %v, which is encoded as %x, %v", b, s, again, e)
		}
	}
	if len(scenes) < 3000 {
		t.Errorf("only %d scenes", len(scenes))
	}
}

// spoil changes bodies in some way.
func (c *chance) spoil(b *bodies) {
	i := c.upTo(3)
	if len(b[i]) == 0 {
		b[i] = make([]byte, []int{9, 12, 27, 8}[i])
	}
	at := c.upTo(len(b[i]) - 1)
	switch c.upTo(5) {
	case 0, 1, 2:
		b[i][at] = byte(c.upTo(255))
	case 3:
		b[i][at] = byte(c.upTo(2))
	case 4:
		b[i] = b[i][:at]
	case 5:
		b[i] = append(b[i], b[i][at:]...)
	}
}

func TestDecodeOfAnyBytes(t *testing.T) { // P14.2, P14.3, R1
	c, seen := chance(4), map[api.Errno]int{}
	for range 30000 {
		b := modelBodies(c.scene(1+c.upTo(4), c.upTo(4)))
		for range c.upTo(3) {
			c.spoil(&b)
		}
		x := sealed(b.sections())
		s, e := decode(t, x)
		seen[e]++
		if e != api.OK {
			continue
		}
		if again, e := encode(t, s); e != api.OK || !bytes.Equal(again, x) {
			t.Fatalf("%x is decoded as %v, which is encoded as %x, %v", x, s, again, e)
		}
	}
	for _, e := range []api.Errno{api.OK, api.ErrForm, api.ErrArg, api.ErrNone} {
		if seen[e] < 100 {
			t.Errorf("%v was told %d times", e, seen[e])
		}
	}
	for range 3000 {
		x := make([]byte, c.upTo(120))
		for i := range x {
			x[i] = byte(c.next())
		}
		decode(t, x)
		decode(t, append([]byte("DPZ1"), x...))
		if len(x) > 4 {
			copy(x, "DPZ1\x04")
			decode(t, mended(x))
		}
	}
}

// fault is something wrong with an image's sections, and how that is told.
type fault struct {
	e  api.Errno
	by func(l []api.Section) []api.Section
}

// faults are in the order in which P14.2 names them.
func faults() []fault {
	return []fault{
		{api.ErrKind, func(l []api.Section) []api.Section { return append(l, api.Section{Kind: 9}) }},
		{api.ErrKind, func(l []api.Section) []api.Section { l[3].Kind = 6; return l }},
		{api.ErrForm, func(l []api.Section) []api.Section { l[0].Body = append(l[0].Body, 0); return l }},
		{api.ErrForm, func(l []api.Section) []api.Section { l[1].Body = l[1].Body[:len(l[1].Body)-12]; return l }},
		{api.ErrForm, func(l []api.Section) []api.Section { l[2].Body = append(l[2].Body, make([]byte, 27)...); return l }},
		{api.ErrForm, func(l []api.Section) []api.Section { l[3].Body = append(l[3].Body, 1); return l }},
		{api.ErrForm, func(l []api.Section) []api.Section { l[2].Body[9] = 2; return l }},
		{api.ErrForm, func(l []api.Section) []api.Section { l[2].Body[27*2+9] = 255; return l }},
		{api.ErrArg, func(l []api.Section) []api.Section { l[0].Body[8] = 0xff; return l }},
		{api.ErrArg, func(l []api.Section) []api.Section { copy(l[3].Body, make([]byte, 8)); return l }},
		{api.ErrTwice, func(l []api.Section) []api.Section { l[2].Body[27] = 10; return l }},
		{api.ErrNone, func(l []api.Section) []api.Section { l[2].Body[27+4] = 9; return l }},
		{api.ErrForm, func(l []api.Section) []api.Section { copy(l[0].Body[9+3:], "\x14\x00\x00"); return l }},
	}
}

func TestFirstErrorOfDecode(t *testing.T) { // P14.2, R2, R3: all sets of faults
	for set := range 1 << len(faults()) {
		l, want := modelBodies(small()).sections(), api.OK
		for i, x := range slices.Backward(faults()) {
			if set>>i&1 == 1 {
				l = x.by(l)
				want = x.e
			}
		}
		b := sealed(l)
		if s, e := decode(t, b); e != want || e != api.OK && len(s.Groups)+len(s.Tasks) != 0 {
			t.Errorf("faults %013b: %v, not %v", set, e, want)
		}
		if set%64 != 1 {
			continue
		}
		_, e := decode(t, b[:len(b)-1])
		tell(t, e, api.ErrShort, set)
		_, e = decode(t, append(b, 0))
		tell(t, e, api.ErrTail, set)
		b[len(b)-1] ^= 1
		_, e = decode(t, b)
		tell(t, e, api.ErrSum, set)
	}
}

// turned is bytes of which some in a row are turned over, from a bit on: those that pattern has, its lowest bit first.
func turned(b []byte, from int, pattern uint32) []byte {
	o := slices.Clone(b)
	for bit := range 32 {
		if at := from + bit; pattern>>bit&1 == 1 && at/8 < len(o) {
			o[at/8] ^= 1 << (at % 8)
		}
	}
	return o
}

func TestWhatDiffersInARow(t *testing.T) { // P14.3: from each bit on, all pairs of bits within 32, all runs, and some patterns
	c := chance(5)
	for _, s := range []api.Scene{small(), chain(7, 1), c.scene(2, 1)} {
		b := encoded(t, s)
		for from := range 8 * len(b) {
			patterns := []uint32{1, 0xedb88321, 0xffffffff, uint32(c.next()) | 1, uint32(c.next()) | 1, uint32(c.next())<<16 | 1}
			for bit := 1; bit < 32; bit++ {
				patterns = append(patterns, 1<<bit|1, 1<<bit-1)
			}
			for _, pattern := range patterns {
				if o, e := image.Decode(turned(b, from, pattern)); e == api.OK || len(o.Groups)+len(o.Tasks) != 0 {
					t.Fatalf("%08x from bit %d on: %v, %v", pattern, from, o, e)
				}
			}
		}
	}
}

func TestNilAndEmpty(t *testing.T) { // R4
	for _, groups := range [][]api.GroupSnap{nil, {}} {
		for _, tasks := range [][]api.TaskSnap{nil, {}} {
			if size := image.Size(api.Scene{Groups: groups, Tasks: tasks}); size != 41 {
				t.Error(size)
			}
			_, e := encode(t, api.Scene{Groups: groups, Tasks: tasks})
			tell(t, e, api.ErrShort, "no groups")
		}
	}
	none := encoded(t, api.Scene{Groups: small().Groups})
	empty := encoded(t, api.Scene{Groups: small().Groups, Tasks: []api.TaskSnap{}})
	if !bytes.Equal(none, empty) {
		t.Errorf("%x, %x", none, empty)
	}
	for _, b := range [][]byte{nil, {}} {
		_, e := decode(t, b)
		tell(t, e, api.ErrShort, "no bytes")
	}
}

func TestRoomBehindTellsNothing(t *testing.T) { // R5, R6: what lies behind a list is neither read nor written
	whole := small()
	part := api.Scene{Groups: whole.Groups[:3], Tasks: whole.Tasks[:2]}
	b := encoded(t, part)
	clipped := encoded(t, own(part))
	if !bytes.Equal(b, clipped) || !same(whole, small()) {
		t.Errorf("%x, %x; %v", b, clipped, whole)
	}
	more := append(slices.Clone(b), "behind"...)
	if s, e := decode(t, more[:len(b)]); e != api.OK || !same(s, part) || string(more) != string(b)+"behind" {
		t.Errorf("%v, %v; %q", s, e, more)
	}
}

func TestMemoryOfItsOwn(t *testing.T) { // R5, and more than it asks: an answer shares nothing with what was handed in, nor with another one
	s := small()
	b, _ := image.Encode(s)
	other, _ := image.Encode(s)
	kept := string(b)
	clear(other[:cap(other)])
	if string(b) != kept || !same(s, small()) {
		t.Errorf("%x; %v", b, s)
	}
	one, _ := image.Decode(b)
	two, _ := image.Decode(b)
	clear(one.Groups[:cap(one.Groups)])
	clear(one.Tasks[:cap(one.Tasks)])
	if string(b) != kept || !same(two, small()) {
		t.Errorf("%x; %v", b, two)
	}
	clear(b)
	if !same(two, small()) {
		t.Errorf("%v", two)
	}
	clear(two.Groups)
	if !slices.Equal(two.Tasks, small().Tasks) {
		t.Errorf("%v", two)
	}
}

func TestTheSameEachTime(t *testing.T) { // R6
	c := chance(6)
	s := c.scene(30, 30)
	first := encoded(t, s)
	for range 30 {
		other := c.scene(1+c.upTo(5), c.upTo(5))
		encode(t, other)
		if again := encoded(t, s); !bytes.Equal(again, first) {
			t.Fatalf("%x, then %x", first, again)
		}
	}
	if l, e := parcel.Unpack(first); e != api.OK || len(l) != 4 {
		t.Error(e)
	}
}
