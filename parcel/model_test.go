package parcel_test

import (
	"encoding/binary"
	"hash/crc32"
	"slices"
	"testing"

	"diapause/api"
	"diapause/parcel"
)

const (
	maxSections = 16
	maxKind     = 255
	maxBody     = 65535
)

// chance is numbers without a pattern, the same ones each time.
type chance uint64

func (c *chance) next() uint64 {
	*c = *c*6364136223846793005 + 1442695040888963407
	return uint64(*c) ^ uint64(*c)>>29
}

// upTo is a number from 0 to most, all of them as frequent.
func (c *chance) upTo(most int) int {
	return int((c.next() >> 8) % uint64(most+1))
}

// bytes are so many.
func (c *chance) bytes(many int) []byte {
	b := make([]byte, many)
	for i := range b {
		b[i] = byte(c.upTo(255))
	}
	return b
}

// sections are so many that can be, with bodies of up to so many bytes.
func (c *chance) sections(many, most int) []api.Section {
	kinds := map[int]bool{}
	for len(kinds) < many {
		kinds[1+c.upTo(maxKind-1)] = true
	}
	var l []api.Section
	for kind := range maxKind + 1 {
		if kinds[kind] {
			l = append(l, api.Section{Kind: kind, Body: c.bytes(c.upTo(most))})
		}
	}
	return l
}

// line is a row of a table.
type line struct {
	kind byte
	size uint16
	sum  uint32
}

// draft is all of which an image is made, each part as it may be right or wrong: head and table are exclusive-or'd with the checks.
type draft struct {
	magic       string
	many        int
	head, table uint32
	lines       []line
	rest        []byte
}

// drafted is the image of sections in the chapter's words, right in all parts if they can be.
func drafted(l []api.Section) draft {
	d := draft{magic: "DPZ1", many: len(l)}
	for _, s := range l {
		d.lines = append(d.lines, line{byte(s.Kind), uint16(len(s.Body)), crc32.ChecksumIEEE(s.Body)})
		d.rest = append(d.rest, s.Body...)
	}
	return d
}

// bytes are those of the image.
func (d draft) bytes() []byte {
	b := append([]byte(d.magic), byte(d.many))
	b = binary.LittleEndian.AppendUint32(b, crc32.ChecksumIEEE(b)^d.head)
	for _, x := range d.lines {
		b = append(b, x.kind, byte(x.size), byte(x.size>>8), byte(x.sum), byte(x.sum>>8), byte(x.sum>>16), byte(x.sum>>24))
	}
	b = binary.LittleEndian.AppendUint32(b, crc32.ChecksumIEEE(b)^d.table)
	return append(b, d.rest...)
}

// mended is bytes with the checks of head and table right, as far as they are there: whatever lies behind is asked then.
func mended(b []byte) []byte {
	m := slices.Clone(b)
	for _, at := range []int{5, tableEnd(int(b[4])) - 4} {
		if at+4 <= len(m) {
			binary.LittleEndian.PutUint32(m[at:], crc32.ChecksumIEEE(m[:at]))
		}
	}
	return m
}

// tableEnd is where the bodies of so many sections begin.
func tableEnd(many int) int { return 4 + 1 + 4 + 7*many + 4 }

// modelPack is P10.1.
func modelPack(l []api.Section) ([]byte, api.Errno) {
	if len(l) > maxSections {
		return nil, api.ErrFull
	}
	for i, s := range l {
		if s.Kind < 1 || s.Kind > maxKind || i > 0 && s.Kind <= l[i-1].Kind {
			return nil, api.ErrKind
		}
	}
	for _, s := range l {
		if len(s.Body) > maxBody {
			return nil, api.ErrLong
		}
	}
	return drafted(l).bytes(), api.OK
}

// number is what four bytes tell.
func number(b []byte, at int) uint32 {
	return uint32(b[at]) | uint32(b[at+1])<<8 | uint32(b[at+2])<<16 | uint32(b[at+3])<<24
}

// modelUnpack is P10.2, one error behind the other.
func modelUnpack(b []byte) ([]api.Section, api.Errno) {
	if len(b) < 9 {
		return nil, api.ErrShort
	}
	if b[0] != 'D' || b[1] != 'P' || b[2] != 'Z' || b[3] != '1' {
		return nil, api.ErrMagic
	}
	if number(b, 5) != crc32.ChecksumIEEE(b[:5]) {
		return nil, api.ErrSum
	}
	many := int(b[4])
	if many > maxSections {
		return nil, api.ErrFull
	}
	if len(b) < tableEnd(many) {
		return nil, api.ErrShort
	}
	if at := tableEnd(many) - 4; number(b, at) != crc32.ChecksumIEEE(b[:at]) {
		return nil, api.ErrSum
	}
	for i := range many {
		if kind := b[9+7*i]; kind == 0 || i > 0 && kind <= b[9+7*(i-1)] {
			return nil, api.ErrKind
		}
	}
	return modelBodies(b, many)
}

// modelBodies is what P10.2 says of the bodies, behind a table that is right.
func modelBodies(b []byte, many int) ([]api.Section, api.Errno) {
	ends := []int{tableEnd(many)}
	for i := range many {
		ends = append(ends, ends[i]+int(b[9+7*i+1])+256*int(b[9+7*i+2]))
	}
	if len(b) < ends[many] {
		return nil, api.ErrShort
	}
	if len(b) > ends[many] {
		return nil, api.ErrTail
	}
	var l []api.Section
	for i := range many {
		body := b[ends[i]:ends[i+1]]
		if number(b, 9+7*i+3) != crc32.ChecksumIEEE(body) {
			return nil, api.ErrSum
		}
		l = append(l, api.Section{Kind: int(b[9+7*i]), Body: body})
	}
	return l, api.OK
}

// modelFind is P10.3.
func modelFind(l []api.Section, kind int) ([]byte, bool) {
	for len(l) > 0 {
		if l[0].Kind == kind {
			return l[0].Body, true
		}
		l = l[1:]
	}
	return nil, false
}

// alike tells whether two lists have the same sections.
func alike(l, o []api.Section) bool {
	return slices.EqualFunc(l, o, func(s, z api.Section) bool { return s.Kind == z.Kind && slices.Equal(s.Body, z.Body) })
}

// own is a list that shares nothing with another one.
func own(l []api.Section) []api.Section {
	o := slices.Clone(l)
	for i := range o {
		o[i].Body = slices.Clone(o[i].Body)
	}
	return o
}

// pack packs, and fails where that is not what the model tells, or changed what was handed in.
func pack(t *testing.T, l []api.Section) ([]byte, api.Errno) {
	t.Helper()
	was := own(l)
	want, e := modelPack(l)
	got, f := parcel.Pack(l)
	if f != e || !slices.Equal(got, want) {
		t.Fatalf("Pack(%s) = %s, %v, not %s, %v", tell(l), short(got), f, short(want), e)
	}
	if !alike(l, was) {
		t.Fatalf("Pack(%s) has made %s of it", tell(was), tell(l))
	}
	return got, f
}

// unpack unpacks, likewise.
func unpack(t *testing.T, b []byte) ([]api.Section, api.Errno) {
	t.Helper()
	was := slices.Clone(b)
	want, e := modelUnpack(b)
	got, f := parcel.Unpack(b)
	if f != e || !alike(got, want) {
		t.Fatalf("Unpack(%s) = %s, %v, not %s, %v", short(b), tell(got), f, tell(want), e)
	}
	if !slices.Equal(b, was) {
		t.Fatalf("Unpack(%s) has made %s of it", short(was), short(b))
	}
	return got, f
}

// find finds, likewise.
func find(t *testing.T, l []api.Section, kind int) ([]byte, bool) {
	t.Helper()
	was := own(l)
	want, is := modelFind(l, kind)
	got, has := parcel.Find(l, kind)
	if has != is || !slices.Equal(got, want) {
		t.Fatalf("Find(%s, %d) = %s, %v, not %s, %v", tell(l), kind, short(got), has, short(want), is)
	}
	if !alike(l, was) {
		t.Fatalf("Find(%s, %d) has made %s of it", tell(was), kind, tell(l))
	}
	return got, has
}
