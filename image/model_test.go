package image_test

import (
	"encoding/binary"
	"fmt"
	"hash/crc32"
	"slices"
	"testing"

	"diapause/api"
	"diapause/image"
	"diapause/parcel"
	"diapause/scene"
)

const (
	maxId     = 1 << 20
	maxEach   = 4096
	maxDeep   = 16
	maxWeight = 1 << 20
	maxTicks  = 1 << 40
	maxPeriod = 1 << 20
	maxFar    = 1 << 61
	maxBody   = 65535
)

// chance is numbers without a pattern, the same ones each time.
type chance uint64

func (c *chance) next() uint64 {
	*c = *c*6364136223846793005 + 1442695040888963407
	return uint64(*c) ^ uint64(*c)>>29
}

// upTo is a number from 0 to most, all of them as frequent.
func (c *chance) upTo(most int) int {
	return int((c.next() >> 8) % uint64(most+1))
}

// lay lays numbers behind bytes, so many bytes each, the lowest one first.
func lay(b []byte, many int, numbers ...int) []byte {
	b = slices.Clone(b)
	for _, n := range numbers {
		for i := range many {
			b = append(b, byte(n>>(8*i)))
		}
	}
	return b
}

// told is the number that lies in so many bytes from at on.
func told(b []byte, at, many int) int {
	n := 0
	for i := range many {
		n += int(b[at+i]) << (8 * i)
	}
	return n
}

// bodies are those of the four sections.
type bodies [4][]byte

// modelBodies are a scene's, in the chapter's words. What does not fit is left out: so are scenes told that can't be.
func modelBodies(s api.Scene) bodies {
	var b bodies
	var l [4][][]byte
	for _, g := range s.Groups {
		l[0] = append(l[0], lay(nil, 3, g.Id, g.Parent, g.Weight))
		l[1] = append(l[1], lay(lay(nil, 3, g.Band.Period, g.Band.Quota), 6, g.Band.Used))
	}
	for _, t := range s.Tasks {
		x := lay(nil, 3, t.Id, t.Group, t.Weight)
		if t.Asleep {
			x = append(x, 1)
		} else {
			x = append(x, 0)
		}
		l[2] = append(l[2], lay(lay(lay(x, 6, t.Ran), 8, t.Lag.V), 3, t.Lag.Rem))
		l[3] = append(l[3], binary.LittleEndian.AppendUint64(nil, t.Cores))
	}
	for i := range b {
		b[i] = slices.Concat(l[i]...)
	}
	return b
}

// sections are bodies with their kinds.
func (b bodies) sections() []api.Section {
	var l []api.Section
	for i, body := range b {
		l = append(l, api.Section{Kind: i + 1, Body: body})
	}
	return l
}

// sealed is the image of sections, in the words of chapter 10, whatever kinds they have.
func sealed(l []api.Section) []byte {
	b := append([]byte("DPZ1"), byte(len(l)))
	b = binary.LittleEndian.AppendUint32(b, crc32.ChecksumIEEE(b))
	for _, s := range l {
		b = append(b, byte(s.Kind), byte(len(s.Body)), byte(len(s.Body)>>8))
		b = binary.LittleEndian.AppendUint32(b, crc32.ChecksumIEEE(s.Body))
	}
	b = binary.LittleEndian.AppendUint32(b, crc32.ChecksumIEEE(b))
	for _, s := range l {
		b = append(b, s.Body...)
	}
	return b
}

// modelEncode is P14.1.
func modelEncode(s api.Scene) ([]byte, api.Errno) {
	if e := scene.Check(s); e != api.OK {
		return nil, e
	}
	b := modelBodies(s)
	for _, body := range b {
		if len(body) > maxBody {
			return nil, api.ErrLong
		}
	}
	return sealed(b.sections()), api.OK
}

// modelDecode is P14.2, one error behind the other.
func modelDecode(b []byte) (api.Scene, api.Errno) {
	l, e := parcel.Unpack(b)
	if e != api.OK {
		return api.Scene{}, e
	}
	if len(l) != 4 || l[0].Kind != 1 || l[1].Kind != 2 || l[2].Kind != 3 || l[3].Kind != 4 {
		return api.Scene{}, api.ErrKind
	}
	s, e := modelScene(bodies{l[0].Body, l[1].Body, l[2].Body, l[3].Body})
	if e != api.OK {
		return api.Scene{}, e
	}
	if e := scene.Check(s); e != api.OK {
		return api.Scene{}, e
	}
	return s, api.OK
}

// modelCount is how many rows two bodies have; -1, if there is no such number.
func modelCount(one, two []byte, oneRow, twoRow int) int {
	for many := range maxBody + 1 {
		if len(one) == many*oneRow && len(two) == many*twoRow {
			return many
		}
		if many*oneRow > len(one) {
			break
		}
	}
	return -1
}

// modelScene is what bodies tell.
func modelScene(b bodies) (api.Scene, api.Errno) {
	groups, tasks := modelCount(b[0], b[1], 9, 12), modelCount(b[2], b[3], 27, 8)
	if groups < 0 || tasks < 0 {
		return api.Scene{}, api.ErrForm
	}
	var s api.Scene
	for i := range groups {
		s.Groups = append(s.Groups, api.GroupSnap{
			Id: told(b[0], 9*i, 3), Parent: told(b[0], 9*i+3, 3), Weight: told(b[0], 9*i+6, 3),
			Band: api.Band{Period: told(b[1], 12*i, 3), Quota: told(b[1], 12*i+3, 3), Used: told(b[1], 12*i+6, 6)},
		})
	}
	for i := range tasks {
		if b[2][27*i+9] > 1 {
			return api.Scene{}, api.ErrForm
		}
		s.Tasks = append(s.Tasks, api.TaskSnap{
			Id: told(b[2], 27*i, 3), Group: told(b[2], 27*i+3, 3), Weight: told(b[2], 27*i+6, 3),
			Asleep: b[2][27*i+9] == 1, Ran: told(b[2], 27*i+10, 6),
			Lag:   api.Pace{V: told(b[2], 27*i+16, 8), Rem: told(b[2], 27*i+24, 3)},
			Cores: binary.LittleEndian.Uint64(b[3][8*i:]),
		})
	}
	return s, api.OK
}

// same tells whether two scenes are: whether their lists are nil plays no part.
func same(s, o api.Scene) bool {
	return slices.Equal(s.Groups, o.Groups) && slices.Equal(s.Tasks, o.Tasks)
}

// own is a scene that shares nothing with another one.
func own(s api.Scene) api.Scene {
	return api.Scene{Groups: slices.Clone(s.Groups), Tasks: slices.Clone(s.Tasks)}
}

// short is a thing as a text, of a long one the beginning.
func short(x any) string {
	text := fmt.Sprintf("%v", x)
	if b, is := x.([]byte); is {
		text = fmt.Sprintf("%x", b)
	}
	if len(text) > 900 {
		return text[:900] + ".."
	}
	return text
}

// tell fails if an error is not the one that it should be.
func tell(t *testing.T, got, want api.Errno, of any) {
	t.Helper()
	if got != want {
		t.Errorf("%v, not %v: of %s", got, want, short(of))
	}
}

// encode encodes, and fails where that, or the size, is not what the model tells, or changed what was handed in.
func encode(t *testing.T, s api.Scene) ([]byte, api.Errno) {
	t.Helper()
	was := own(s)
	want, e := modelEncode(s)
	got, f := image.Encode(s)
	if f != e || !slices.Equal(got, want) {
		t.Fatalf("Encode(%s) = %s, %v, not %s, %v", short(s), short(got), f, short(want), e)
	}
	if size := image.Size(s); size != 41+21*len(s.Groups)+35*len(s.Tasks) || e == api.OK && size != len(got) {
		t.Fatalf("Size(%s) = %d", short(s), size)
	}
	if !same(s, was) {
		t.Fatalf("Encode(%s) has made %s of it", short(was), short(s))
	}
	return got, f
}

// decode decodes, likewise.
func decode(t *testing.T, b []byte) (api.Scene, api.Errno) {
	t.Helper()
	was := slices.Clone(b)
	want, e := modelDecode(b)
	got, f := image.Decode(b)
	if f != e || !same(got, want) {
		t.Fatalf("Decode(%s) = %s, %v, not %s, %v", short(b), short(got), f, short(want), e)
	}
	if !slices.Equal(b, was) {
		t.Fatalf("Decode(%s) has made %s of it", short(was), short(b))
	}
	return got, f
}
