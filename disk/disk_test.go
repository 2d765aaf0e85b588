package disk_test

import (
	"math"
	"slices"
	"strings"
	"testing"

	"diapause/api"
	"diapause/disk"
)

// first is the text at the beginning of a sector, up to its zeros, as it is read.
func first(t *testing.T, d *disk.Disk, i int) string {
	t.Helper()
	b, e := d.Read(i)
	if e != api.OK || len(b) != sectorBytes {
		t.Fatalf("Read(%d) = %x, %v", i, b, e)
	}
	return strings.TrimRight(string(b), "\x00")
}

// keptAt is what is kept of a sector, up to its zeros.
func keptAt(d *disk.Disk, i int) string { return strings.TrimRight(string(d.Kept()[i]), "\x00") }

func TestExamples(t *testing.T) { // P9.2, P9.4
	d := disk.New(3)
	must(t, d.Write(1, []byte("ab")))
	d.Crash(nil)
	if b, e := d.Read(1); e != api.OK || !slices.Equal(b, make([]byte, 64)) {
		t.Errorf("%x, %v", b, e)
	}
	must(t, d.Write(1, []byte("ab")))
	d.Crash([]bool{true})
	if b, e := d.Read(1); e != api.OK || !slices.Equal(b, append([]byte("ab"), make([]byte, 62)...)) {
		t.Errorf("%x, %v", b, e)
	}
}

func TestNew(t *testing.T) { // P9.1
	for _, x := range []struct{ sectors, want int }{
		{0, 0}, {1, 1}, {2, 2}, {64, 64}, {511, 511}, {512, 512}, {513, 512}, {1024, 512}, {1<<32 + 1, 512}, {math.MaxInt, 512},
		{-1, 0}, {-512, 0}, {-1 << 32, 0}, {math.MinInt, 0}, {math.MinInt + 1, 0},
	} {
		p := newPair(t, x.sectors)
		if p.d.Len() != x.want || len(p.d.Kept()) != x.want || len(p.d.Waits()) != 0 {
			t.Errorf("New(%d): %d sectors, %d are kept, %v wait", x.sectors, p.d.Len(), len(p.d.Kept()), p.d.Waits())
		}
		for i, b := range p.d.Kept() {
			if !slices.Equal(b, make([]byte, 64)) {
				t.Errorf("New(%d): sector %d is %x", x.sectors, i, b)
			}
		}
	}
}

func TestNewIsNotArmed(t *testing.T) { // P9.1
	d := disk.New(1)
	for range maxCalls + 2 {
		must(t, d.Flush())
	}
}

func TestWithoutSectors(t *testing.T) { // P9.1, P9.2, P9.3, P9.4
	p := newPair(t, 0)
	for range 2 {
		for _, i := range append(notThere(0), 1) {
			if e := p.write(i, "a"); e != api.ErrRange {
				t.Fatalf("Write(%d) = %v", i, e)
			}
			p.rot(i, 0)
		}
		must(t, p.flush())
		p.crash(true)
		p.same()
	}
}

func TestFirstErrorOfRead(t *testing.T) { // P9.2, R2, R3
	p := newPair(t, 2)
	must(t, p.write(0, "a"))
	for _, x := range []struct {
		i       int
		on, off api.Errno
	}{{0, api.OK, api.ErrDisk}, {1, api.OK, api.ErrDisk}, {2, api.ErrRange, api.ErrRange}, {-1, api.ErrRange, api.ErrRange}, {math.MaxInt, api.ErrRange, api.ErrRange}, {math.MinInt, api.ErrRange, api.ErrRange}} {
		for range 2 { // reading is no call that counts, nor does it change what is read
			if b, e := p.d.Read(x.i); e != x.on || (e != api.OK) != (len(b) == 0) {
				t.Errorf("Read(%d) = %x, %v", x.i, b, e)
			}
		}
		p.arm(0)
		if b, e := p.d.Read(x.i); e != x.off || len(b) != 0 {
			t.Errorf("off: Read(%d) = %x, %v", x.i, b, e)
		}
		p.crash(true)
		p.same()
	}
}

func TestFirstErrorOfWrite(t *testing.T) { // P9.2, R2, R3: each with all that are named behind it
	p := newPair(t, 2)
	must(t, p.write(0, "kept"), p.flush(), p.write(0, "waits"))
	long := strings.Repeat("x", 65)
	for _, i := range notThere(2) {
		for _, b := range []string{"", "a", long} {
			if e := p.write(i, b); e != api.ErrRange {
				t.Errorf("Write(%d, %q) = %v", i, b, e)
			}
			p.same()
		}
	}
	for _, many := range []int{65, 66, 127, 128, 129, 256, 320, 512, 65536, 65600} {
		for i := range 2 {
			if e := p.write(i, strings.Repeat("x", many)); e != api.ErrLong {
				t.Errorf("Write(%d) of %d bytes: %v", i, many, e)
			}
			p.same()
		}
	}
	p.arm(0)
	for _, i := range append(notThere(2), 0, 1) {
		for _, b := range []string{"", "a", long} {
			if e := p.write(i, b); e != api.ErrDisk {
				t.Errorf("off: Write(%d, %q) = %v", i, b, e)
			}
			p.same()
		}
	}
}

func TestWriteOfAnyLength(t *testing.T) { // P9.2: bytes 0 are laid behind it, whatever was there before
	c := chance(3)
	p := newPair(t, 3)
	for many := range 65 {
		must(t, p.write(1, strings.Repeat("w", 64)))
		if many%3 > 0 {
			must(t, p.flush())
		}
		if many%3 > 1 {
			must(t, p.write(1, strings.Repeat("v", 64)))
		}
		b := c.bytes(many)
		must(t, p.write(1, string(b)))
		got, e := p.d.Read(1)
		must(t, e)
		if want := append(slices.Clone(b), make([]byte, 64-many)...); !slices.Equal(got, want) {
			t.Fatalf("%d bytes are read as %x", many, got)
		}
		p.same()
		if l := p.d.Waits(); !slices.Equal(l, []int{1}) {
			t.Fatalf("%v wait", l)
		}
	}
	if e := p.d.Write(2, nil); e != api.OK || !slices.Equal(p.d.Waits(), []int{1, 2}) {
		t.Errorf("%v, %v", e, p.d.Waits())
	}
}

func TestWriteOfWhatIsKept(t *testing.T) { // P9.2: it waits, though nothing is other than before
	p := newPair(t, 2)
	must(t, p.write(1, ""))
	if l := p.d.Waits(); !slices.Equal(l, []int{1}) {
		t.Errorf("%v wait", l)
	}
	must(t, p.write(0, "a"), p.flush(), p.write(0, "a"))
	if l := p.d.Waits(); !slices.Equal(l, []int{0}) {
		t.Errorf("%v wait", l)
	}
	p.same()
}

func TestFlush(t *testing.T) { // P9.2
	d := disk.New(4)
	must(t, d.Flush(), d.Write(0, []byte("a")), d.Write(3, []byte("b")), d.Write(0, []byte("c")))
	if first(t, d, 0) != "c" || keptAt(d, 0) != "" || first(t, d, 3) != "b" || keptAt(d, 3) != "" {
		t.Errorf("%q, %q", first(t, d, 0), first(t, d, 3))
	}
	must(t, d.Flush())
	if len(d.Waits()) != 0 || keptAt(d, 0) != "c" || keptAt(d, 3) != "b" || first(t, d, 0) != "c" || first(t, d, 3) != "b" {
		t.Errorf("%v; %q, %q", d.Waits(), keptAt(d, 0), keptAt(d, 3))
	}
	// Of what is kept a crash takes nothing.
	must(t, d.Write(0, []byte("d")))
	d.Crash(nil)
	if keptAt(d, 0) != "c" || first(t, d, 0) != "c" || keptAt(d, 3) != "b" {
		t.Errorf("%q, %q", keptAt(d, 0), keptAt(d, 3))
	}
}

func TestWaits(t *testing.T) { // P9.3: rising, whatever the order in which they were written
	c := chance(4)
	for _, sectors := range []int{1, 2, 9, 100, maxSectors} {
		for range 20 {
			p := newPair(t, sectors)
			for range c.upTo(2 * sectors) {
				must(t, p.write(c.upTo(sectors-1), "x"))
			}
			p.same()
		}
	}
	p := newPair(t, maxSectors)
	for i := maxSectors - 1; i >= 0; i-- {
		must(t, p.write(i, string(rune(i))))
	}
	for i, x := range p.d.Waits() {
		if i != x {
			t.Fatalf("%d waits at %d", x, i)
		}
	}
	p.same()
	must(t, p.flush())
	p.same()
}

// counted is a call that counts, with each of its outcomes but ErrDisk.
func counted() []func(p pair) api.Errno {
	return []func(p pair) api.Errno{
		func(p pair) api.Errno { return p.write(1, "abc") },
		func(p pair) api.Errno { return p.write(2, "abc") },
		func(p pair) api.Errno { return p.write(-1, "abc") },
		func(p pair) api.Errno { return p.write(0, strings.Repeat("d", 65)) },
		func(p pair) api.Errno { return p.flush() },
	}
}

// uncounted does all that doesn't count.
func uncounted(p pair) {
	p.t.Helper()
	p.same()
	p.rot(0, 9)
	p.rot(7, 9)
	p.same()
}

func TestArm(t *testing.T) { // P9.3: each call of Write and Flush counts, whatever comes of it, and nothing else does
	for _, calls := range []int{0, 1, 2, 3, 9, -1, -9, math.MinInt} {
		for _, do := range counted() {
			p := newPair(t, 2)
			must(t, p.write(0, "waits"))
			p.arm(calls)
			for range calls {
				uncounted(p)
				if e := do(p); e == api.ErrDisk {
					t.Fatalf("Arm(%d): off too early", calls)
				}
			}
			// It stays off, however often it is asked.
			for range 5 {
				for _, do := range counted() {
					uncounted(p)
					if e := do(p); e != api.ErrDisk {
						t.Fatalf("Arm(%d): %v", calls, e)
					}
				}
			}
			p.crash(true)
			uncounted(p)
		}
	}
}

// lasts is how many calls a disk takes till it is off.
func lasts(d *disk.Disk) int {
	many := 0
	for d.Flush() == api.OK {
		many++
	}
	return many
}

func TestArmIsHeld(t *testing.T) { // P9.3
	for _, x := range []struct{ calls, want int }{
		{1000, 1000}, {maxCalls - 1, maxCalls - 1}, {maxCalls, maxCalls}, {maxCalls + 1, maxCalls}, {1 << 32, maxCalls}, {1<<32 + 1, maxCalls}, {math.MaxInt, maxCalls},
		{-1, 0}, {-1 << 32, 0}, {math.MinInt, 0}, {math.MinInt + 1, 0}, {0, 0},
	} {
		d := disk.New(1)
		d.Arm(x.calls)
		if got := lasts(d); got != x.want {
			t.Errorf("Arm(%d): %d calls", x.calls, got)
		}
	}
}

func TestArmAgain(t *testing.T) { // P9.3: from now on, whatever it was armed by, and if it is off
	for _, before := range []int{0, 1, 3, 10} {
		for made := range 5 {
			for _, calls := range []int{0, 1, 3, 10} {
				d := disk.New(1)
				d.Arm(before)
				for range made {
					d.Flush()
				}
				d.Arm(calls)
				if got := lasts(d); got != calls {
					t.Errorf("Arm(%d), %d calls, Arm(%d): %d calls", before, made, calls, got)
				}
			}
		}
	}
}

func TestWhatAnOffDiskTells(t *testing.T) { // P9.1, P9.2, P9.3: Len, Waits and Kept as ever
	p := newPair(t, 3)
	must(t, p.write(0, "a"), p.flush(), p.write(2, "c"))
	p.arm(0)
	if p.d.Len() != 3 || !slices.Equal(p.d.Waits(), []int{2}) || keptAt(p.d, 0) != "a" || keptAt(p.d, 2) != "" {
		t.Errorf("%d, %v, %x", p.d.Len(), p.d.Waits(), p.d.Kept())
	}
	p.same()
}

// lettered is a disk that keeps a great letter in each sector; in those of a set of bits a small one waits.
func lettered(t *testing.T, sectors, waiting int) pair {
	t.Helper()
	p := newPair(t, sectors)
	for i := range sectors {
		must(t, p.write(i, string(rune('A'+i))))
	}
	must(t, p.flush())
	for i := sectors - 1; i >= 0; i-- {
		if waiting>>i&1 == 1 {
			must(t, p.write(i, string(rune('a'+i))))
		}
	}
	return p
}

func TestCrash(t *testing.T) { // P9.4: all sets of five sectors that wait, and all lists of up to six to keep
	const sectors = 5
	for waiting := range 1 << sectors {
		for many := range sectors + 2 {
			for bits := range 1 << many {
				p := lettered(t, sectors, waiting)
				var keep []bool
				for k := range many {
					keep = append(keep, bits>>k&1 == 1)
				}
				p.crash(keep...)
				p.same()
				rank := 0
				for i := range sectors {
					want := string(rune('A' + i))
					if waiting>>i&1 == 1 {
						if rank < many && bits>>rank&1 == 1 {
							want = string(rune('a' + i))
						}
						rank++
					}
					if got := first(t, p.d, i); got != want || keptAt(p.d, i) != want {
						t.Fatalf("%05b wait, Crash(%v): sector %d is %q, %q is kept", waiting, keep, i, got, keptAt(p.d, i))
					}
				}
				if l := p.d.Waits(); len(l) != 0 {
					t.Fatalf("%v wait", l)
				}
			}
		}
	}
}

func TestCrashSwitchesOn(t *testing.T) { // P9.4: on, and not armed, whether it was off or not
	for _, calls := range []int{0, 1, 2, 3, 7} {
		for made := range 5 {
			p := newPair(t, 2)
			must(t, p.write(0, "a"), p.write(1, "b"))
			p.arm(calls)
			for range made {
				p.write(1, "c")
			}
			p.crash(true, true)
			p.same()
			for range 20 {
				must(t, p.write(0, "d"), p.flush())
			}
			p.same()
		}
	}
}

func TestCrashOfAnOffDisk(t *testing.T) { // P9.4: what waited still waits
	d := disk.New(3)
	must(t, d.Write(0, []byte("a")), d.Write(2, []byte("c")))
	d.Arm(0)
	if e := d.Write(2, []byte("z")); e != api.ErrDisk {
		t.Fatal(e)
	}
	if e := d.Flush(); e != api.ErrDisk || len(d.Waits()) != 2 || keptAt(d, 0) != "" {
		t.Fatal(e, d.Waits())
	}
	d.Crash([]bool{false, true})
	if first(t, d, 0) != "" || first(t, d, 2) != "c" || len(d.Waits()) != 0 {
		t.Errorf("%q, %q, %v", first(t, d, 0), first(t, d, 2), d.Waits())
	}
}

func TestRot(t *testing.T) { // P9.4: each bit of a sector, and back
	p := newPair(t, 3)
	c := chance(5)
	must(t, p.write(0, string(c.bytes(64))), p.write(1, string(c.bytes(64))), p.write(2, string(c.bytes(64))), p.flush())
	for i := range 3 {
		for bit := range 512 {
			was := p.d.Kept()
			p.rot(i, bit)
			p.same()
			want := was[i]
			want[bit/8] ^= byte(1) << (bit - bit/8*8)
			got, e := p.d.Read(i)
			if !slices.Equal(got, want) || e != api.OK || len(p.d.Waits()) != 0 {
				t.Fatalf("Rot(%d, %d): %x, %v; %v wait", i, bit, got, e, p.d.Waits())
			}
			if bit%2 == 0 {
				p.rot(i, bit)
				p.same()
			}
		}
	}
}

func TestRotExamples(t *testing.T) { // P9.4
	for _, x := range []struct {
		bit, at int
		want    byte
	}{{0, 0, 1}, {1, 0, 2}, {7, 0, 128}, {8, 1, 1}, {9, 1, 2}, {15, 1, 128}, {256, 32, 1}, {504, 63, 1}, {511, 63, 128}} {
		d := disk.New(2)
		d.Rot(1, x.bit)
		want := make([]byte, 64)
		want[x.at] = x.want
		if l := d.Kept(); !slices.Equal(l[1], want) || !slices.Equal(l[0], make([]byte, 64)) {
			t.Errorf("Rot(1, %d): %x", x.bit, l)
		}
	}
}

func TestRotOfNoBit(t *testing.T) { // P9.4
	p := lettered(t, 3, 2)
	for _, bit := range []int{-1, -8, -512, math.MinInt, 512, 513, 1024, 1 << 32, 1<<32 + 3, math.MaxInt} {
		for i := range 3 {
			p.rot(i, bit)
			p.same()
		}
	}
	for _, i := range notThere(3) {
		for _, bit := range []int{0, 8, 511, 512, -1, math.MaxInt, math.MinInt} {
			p.rot(i, bit)
			p.same()
		}
	}
}

func TestRotOfWhatWaits(t *testing.T) { // P9.4: only what is kept is turned over
	d := disk.New(2)
	must(t, d.Write(0, []byte{4}), d.Write(1, []byte{8}))
	d.Rot(0, 0)
	d.Rot(1, 1)
	if first(t, d, 0) != "\x04" || first(t, d, 1) != "\x08" || keptAt(d, 0) != "\x01" || keptAt(d, 1) != "\x02" || !slices.Equal(d.Waits(), []int{0, 1}) {
		t.Errorf("%x, %v", d.Kept(), d.Waits())
	}
	d.Crash([]bool{true})
	if first(t, d, 0) != "\x04" || first(t, d, 1) != "\x02" {
		t.Errorf("%x", d.Kept())
	}
}

func TestRotOfAnOffDisk(t *testing.T) { // P9.4
	d := disk.New(2)
	d.Arm(0)
	d.Rot(1, 9)
	if string(d.Kept()[1][:2]) != "\x00\x02" {
		t.Errorf("%x", d.Kept())
	}
	if _, e := d.Read(1); e != api.ErrDisk {
		t.Errorf("it is on behind a Rot: %v", e)
	}
	d.Crash(nil)
	if first(t, d, 1) != "\x00\x02" {
		t.Errorf("%q", first(t, d, 1))
	}
}

func TestFlushedStays(t *testing.T) { // P9.5: crashes with all lists to keep, while others are written
	c := chance(6)
	for range 4000 {
		sectors := 1 + c.upTo(7)
		p := newPair(t, sectors)
		var stays, could [8]string
		for i := range sectors {
			stays[i] = string(c.bytes(64))
			must(t, p.write(i, stays[i]))
		}
		must(t, p.flush())
		for range 1 + c.upTo(3) {
			copy(could[:], stays[:])
			if c.upTo(1) == 1 {
				p.arm(c.upTo(8))
			}
			for range c.upTo(12) {
				i, b := c.upTo(sectors-1), string(c.bytes(64))
				if p.write(i, b) == api.OK {
					could[i] = b
				}
				if c.upTo(7) == 0 && p.flush() == api.OK {
					stays = could
				}
			}
			p.crash(c.bools(c.upTo(sectors + 1))...)
			for i := range sectors {
				b, e := p.d.Read(i)
				must(t, e)
				if got := string(b); got != stays[i] && got != could[i] {
					t.Fatalf("sector %d is %x, was %x, was written as %x", i, got, stays[i], could[i])
				}
				stays[i] = string(b)
			}
		}
	}
}
