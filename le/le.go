// Package le is layer 1: see shared/doc/01-le.md.
package le

import "diapause/api"

const (
	leastWidth = 1
	mostWidth  = 8
	byteBits   = 8
	numberBits = mostWidth * byteBits
)

// hold is a width as it counts: callers may ask for any.
func hold(width int) int {
	return min(max(width, leastWidth), mostWidth)
}

// own is a copy, so that nobody's later writing is seen in what is kept or answered.
func own(b []byte) []byte {
	return append([]byte(nil), b...)
}

// Put lays a number behind bytes.
func Put(out []byte, n uint64, width int) []byte {
	width = hold(width)
	// Not laid into out's spare room: another list may lie there, such as the answer of an earlier Put to the same out.
	whole := make([]byte, len(out), len(out)+width)
	copy(whole, out)
	many := 0
next:
	if many < width {
		whole = append(whole, byte(n))
		n >>= byteBits
		many++
		goto next
	}
	return whole
}

// Sign is a number with a sign.
func Sign(n uint64, width int) int64 {
	// The highest byte that counts goes to the top, so that the way back down brings its sign along.
	spare := numberBits - byteBits*hold(width)
	return int64(n<<spare) >> spare
}

// Reader reads numbers from bytes.
type Reader struct {
	rest []byte
	fail api.Errno
}

// New is one of bytes.
func New(b []byte) *Reader {
	return &Reader{rest: own(b)}
}

// next is the next bytes, and steps behind them; what keeps it from that is how the reader fails.
func (r *Reader) next(many int) []byte {
	if r.fail != api.OK {
		return nil
	}
	if many < 0 {
		r.fail = api.ErrArg
		return nil
	}
	if many > len(r.rest) {
		r.fail = api.ErrShort
		return nil
	}
	part := r.rest[:many]
	r.rest = r.rest[many:]
	return part
}

// Take is the next number.
func (r *Reader) Take(width int) uint64 {
	part := r.next(hold(width))
	n := uint64(0)
	i := len(part) - 1
	// From the highest byte down: none are there if the reader failed, and then it tells 0.
next:
	if i >= 0 {
		n = n<<byteBits | uint64(part[i])
		i--
		goto next
	}
	return n
}

// Part is the next bytes.
func (r *Reader) Part(many int) []byte {
	return own(r.next(many))
}

// Left is how many bytes are left.
func (r *Reader) Left() int {
	return len(r.rest)
}

// Fail is how it failed.
func (r *Reader) Fail() api.Errno {
	return r.fail
}

// End tells what is wrong at the end.
func (r *Reader) End() api.Errno {
	if r.fail != api.OK {
		return r.fail
	}
	if len(r.rest) > 0 {
		return api.ErrTail
	}
	return api.OK
}
