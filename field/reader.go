package field

import (
	"bytes"
	"math"

	"jetway/api"
)

// mostDigits is how many bytes the greatest number has in base 256.
const mostDigits = 8

// Reader decodes encodings, one after the other, until its first error.
type Reader struct {
	rest []byte // what is not read yet
	bad  bool
}

// New is a Reader at the beginning of b. It copies b, so that the caller may change b meanwhile.
func New(b []byte) *Reader { return &Reader{rest: bytes.Clone(b)} }

// Number decodes a number of at most most.
func (r *Reader) Number(most uint64) (n uint64) {
	defer func() {
		if recover() != nil {
			n, r.bad = 0, true
		}
	}()
	n, rest := cutNumber(r.unread())
	demand(n <= most)
	r.rest = rest
	return n
}

// Int decodes a number from low to high.
func (r *Reader) Int(low, high int64) (x int64) {
	defer func() {
		if recover() != nil {
			x, r.bad = 0, true
		}
	}()
	x, rest := cutInt(r.unread())
	demand(low <= x && x <= high)
	r.rest = rest
	return x
}

// Text decodes a byte string of at most most bytes.
func (r *Reader) Text(most int) (b []byte) {
	defer func() {
		if recover() != nil {
			b, r.bad = nil, true
		}
	}()
	b, rest := cutText(r.unread())
	demand(len(b) <= most)
	r.rest = rest
	return bytes.Clone(b)
}

// Bad tells whether an error was recorded.
func (r *Reader) Bad() bool { return r.bad }

// Whole tells whether no error was recorded and all bytes have been read.
func (r *Reader) Whole() bool { return !r.bad && len(r.rest) == 0 }

func (r *Reader) unread() []byte {
	demand(!r.bad)
	return r.rest
}

// demand is the one place where an error arises; the exported methods recover from its panic.
func demand(holds bool) {
	if !holds {
		panic(api.ErrForm)
	}
}

// cutNumber, cutInt and cutText split b into the value that its beginning encodes and the bytes behind that.
func cutNumber(b []byte) (uint64, []byte) {
	demand(len(b) > 0)
	return cutDigits(b[1:], int(b[0]))
}

func cutInt(b []byte) (int64, []byte) {
	demand(len(b) > 0)
	if b[0] <= mostDigits {
		n, rest := cutNumber(b)
		demand(n <= math.MaxInt64)
		return int64(n), rest
	}
	// Not the byte 16 itself: that would be a second encoding of 0.
	demand(b[0] > negative)
	n, rest := cutDigits(b[1:], int(b[0])-negative)
	demand(n <= -math.MinInt64)
	return int64(-n), rest
}

func cutText(b []byte) ([]byte, []byte) {
	length, rest := cutNumber(b)
	// Compared without a sign, because a length may be beyond every int.
	demand(length <= uint64(len(rest)))
	return rest[:length], rest[length:]
}

// cutDigits splits b into the number that its first size bytes are in base 256 and the bytes behind them.
func cutDigits(b []byte, size int) (uint64, []byte) {
	demand(size <= mostDigits && size <= len(b))
	// A leading zero byte would be a second encoding of the same number.
	demand(size == 0 || b[0] != 0)
	var n uint64
	for _, c := range b[:size] {
		n = n<<8 | uint64(c)
	}
	return n, b[size:]
}
