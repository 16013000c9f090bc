package flight_test

import (
	"math"
	"math/rand"
	"slices"
	"testing"

	"jetway/api"
	"jetway/flight"
)

// P15.4, Decode of bytes that are no code

// base is a valid code: twelve seats, and limits 12 6 2.
func base() code {
	return code{300, 2, []int{3, 3}, []int{12, 6, 2}, []api.Hold{
		{Owner: 4, Class: 1, Many: 3, Seats: []int{0, 7, 11}},
		{Owner: 300, Class: 2, Many: 1},
		{Owner: greatest, Class: 0, Many: 4, Seats: []int{1, 3}},
	}}
}

func bases() []code {
	full := code{9999, 60, []int{10}, []int{600}, nil}
	for owner := range 600 {
		full.holds = append(full.holds, api.Hold{Owner: owner + 1, Many: 1, Seats: []int{599 - owner}})
	}
	return []code{
		base(),
		{1, 1, []int{1}, []int{1}, nil},
		{1, 1, []int{1}, []int{1}, []api.Hold{{Owner: 1, Many: 1, Seats: []int{0}}}},
		{9999, 60, []int{1, 2, 3, 4}, []int{600, 600, 599, 256, 255, 1, 0, 0}, []api.Hold{{Owner: 1, Class: 3, Many: 256, Seats: []int{0, 255, 256, 599}}}},
		full,
	}
}

func TestBasesAreRight(t *testing.T) {
	for _, c := range bases() {
		if decoded(t, c) == nil {
			t.Errorf("%v is no code", c)
		}
	}
}

func isNone(t *testing.T, what string, b string) {
	t.Helper()
	if f, e := flight.Decode([]byte(b)); f != nil || e != api.ErrForm {
		t.Errorf("%s: %v: error %d, a flight: %t", what, []byte(b), e, f != nil)
	}
	if _, right := plainDecode(b); right {
		t.Errorf("%s: the second reading has a flight of %v", what, []byte(b))
	}
}

func TestDecodeWrongValues(t *testing.T) {
	hold := func(h *api.Hold, owner, class, many int, seats ...int) {
		*h = api.Hold{Owner: owner, Class: class, Many: many, Seats: seats}
	}
	for _, c := range []struct {
		what   string
		change func(c *code, h []api.Hold)
	}{
		{"number 0", func(c *code, h []api.Hold) { c.number = 0 }},
		{"number 10000", func(c *code, h []api.Hold) { c.number = 10000 }},
		{"number 2^32 + 1", func(c *code, h []api.Hold) { c.number = 1<<32 + 1 }},
		{"no rows", func(c *code, h []api.Hold) { c.rows = 0 }},
		{"61 rows", func(c *code, h []api.Hold) { *c = code{1, 61, []int{1}, []int{61}, nil} }},
		{"no groups", func(c *code, h []api.Hold) { *c = code{1, 1, nil, []int{0}, nil} }},
		{"a group of 0", func(c *code, h []api.Hold) { *c = code{1, 1, []int{2, 0}, []int{2}, nil} }},
		{"a group of 11", func(c *code, h []api.Hold) { *c = code{1, 1, []int{11}, []int{11}, nil} }},
		{"five groups", func(c *code, h []api.Hold) { *c = code{1, 1, []int{1, 1, 1, 1, 1}, []int{5}, nil} }},
		{"eleven across", func(c *code, h []api.Hold) { *c = code{1, 1, []int{5, 6}, []int{11}, nil} }},
		{"no limits", func(c *code, h []api.Hold) { c.limits, c.holds = nil, nil }},
		{"nine limits", func(c *code, h []api.Hold) { c.limits = []int{12, 6, 2, 2, 2, 2, 2, 2, 2} }},
		{"the first limit below the count", func(c *code, h []api.Hold) { c.limits[0] = 11 }},
		{"the first limit above the count", func(c *code, h []api.Hold) { c.limits[0] = 13 }},
		{"more rows than the first limit is of", func(c *code, h []api.Hold) { c.rows = 3 }},
		{"the second limit above the first", func(c *code, h []api.Hold) { c.limits[1] = 13 }},
		{"the third limit above the second", func(c *code, h []api.Hold) { c.limits[2] = 7 }},
		{"a limit above 10000", func(c *code, h []api.Hold) { c.limits[1] = 10001 }},
		{"owner 0", func(c *code, h []api.Hold) { h[0].Owner = 0 }},
		{"owner 28629152", func(c *code, h []api.Hold) { h[2].Owner = greatest + 1 }},
		{"an owner twice", func(c *code, h []api.Hold) { h[1].Owner = 4 }},
		{"an owner twice, with all the same", func(c *code, h []api.Hold) { h[2] = h[1] }},
		{"owners out of order", func(c *code, h []api.Hold) { h[0].Owner = 301 }},
		{"owners out of order at the end", func(c *code, h []api.Hold) { h[2].Owner = 299 }},
		{"a class that is none", func(c *code, h []api.Hold) { h[1].Class = 3 }},
		{"a class above all", func(c *code, h []api.Hold) { h[1].Class = 9 }},
		{"many of 0", func(c *code, h []api.Hold) { h[1].Many = 0 }},
		{"many of 0, and a seat", func(c *code, h []api.Hold) { hold(&h[1], 300, 2, 0, 2) }},
		{"fewer than its seats", func(c *code, h []api.Hold) { h[0].Many = 2 }},
		{"one seat too many", func(c *code, h []api.Hold) { h[1].Seats = []int{2, 4} }},
		{"many above the class's limit", func(c *code, h []api.Hold) { h[1].Many = 3 }},
		{"many above a higher class's limit", func(c *code, h []api.Hold) { h[0].Many = 6 }},
		{"many above the count", func(c *code, h []api.Hold) { h[2].Many = 9 }},
		{"many above 10000", func(c *code, h []api.Hold) { h[2].Many = 10001 }},
		{"many of 2^32 + 1", func(c *code, h []api.Hold) { h[2].Many = 1<<32 + 1 }},
		{"seats out of order", func(c *code, h []api.Hold) { h[0].Seats = []int{7, 0, 11} }},
		{"seats out of order at the end", func(c *code, h []api.Hold) { h[0].Seats = []int{0, 11, 7} }},
		{"a seat twice", func(c *code, h []api.Hold) { h[0].Seats = []int{0, 7, 7} }},
		{"a seat twice, at two owners", func(c *code, h []api.Hold) { h[2].Seats = []int{1, 7} }},
		{"the seat 0 twice, at two owners", func(c *code, h []api.Hold) { h[2].Seats = []int{0, 3} }},
		{"seat 12", func(c *code, h []api.Hold) { h[0].Seats = []int{0, 7, 12} }},
		{"seat 600", func(c *code, h []api.Hold) { h[0].Seats = []int{0, 7, 600} }},
		{"seat 2^63 - 1", func(c *code, h []api.Hold) { h[0].Seats = []int{0, 7, math.MaxInt} }},
		{"seat 2^64 - 1", func(c *code, h []api.Hold) { h[0].Seats = []int{0, 7, -1} }},
	} {
		wrong := base()
		c.change(&wrong, wrong.holds)
		isNone(t, c.what, wrong.bytes())
	}
}

// TestDecodeNearMisses: next to what is wrong by one, there is what is right.
func TestDecodeNearMisses(t *testing.T) {
	for _, change := range []func(c *code, h []api.Hold){
		func(c *code, h []api.Hold) { c.number = 1 },
		func(c *code, h []api.Hold) { c.number = 9999 },
		func(c *code, h []api.Hold) { *c = code{1, 60, []int{1}, []int{60}, nil} },
		func(c *code, h []api.Hold) { *c = code{1, 1, []int{1, 1, 1, 1}, []int{4}, nil} },
		func(c *code, h []api.Hold) { *c = code{1, 1, []int{5, 5}, []int{10, 10}, nil} },
		func(c *code, h []api.Hold) { c.limits = []int{12, 6, 2, 2, 2, 2, 2, 2} },
		func(c *code, h []api.Hold) { c.limits[1] = 12 },
		func(c *code, h []api.Hold) { c.limits[2] = 6 },
		func(c *code, h []api.Hold) { h[0].Owner = 1 },
		func(c *code, h []api.Hold) { h[0].Owner = 299 },
		func(c *code, h []api.Hold) { h[2].Owner = 301 },
		func(c *code, h []api.Hold) { h[0].Class = 0 },
		func(c *code, h []api.Hold) { h[1].Many = 2 },
		func(c *code, h []api.Hold) { h[0].Many = 5 },
		func(c *code, h []api.Hold) { h[2].Many = 8 },
		func(c *code, h []api.Hold) { h[1].Seats = []int{2} },
		func(c *code, h []api.Hold) { h[2].Seats = []int{4, 8, 9, 10} },
	} {
		right := base()
		change(&right, right.holds)
		if decoded(t, right) == nil {
			t.Errorf("%v is no code", right)
		}
	}
}

func TestDecodeCut(t *testing.T) {
	for i, c := range bases() {
		b := c.bytes()
		// The last one is long.
		step := []int{1, 1, 1, 1, 97}[i]
		for n := 0; n < len(b); n += step {
			isNone(t, "cut off", b[:n])
			decodedBytes(t, b[n:])
		}
		isNone(t, "cut off", b[:len(b)-1])
		for _, more := range []string{"\x00", "\x01", "\xff", "\x00\x00", b} {
			isNone(t, "more bytes", b+more)
			isNone(t, "bytes ahead", more+b)
		}
	}
	isNone(t, "none", "")
}

// TestDecodeBits: some turned bits make another code, and then it is that one's flight.
func TestDecodeBits(t *testing.T) {
	right := 0
	for _, c := range bases()[:4] {
		b := c.bytes()
		for i := range 8 * len(b) {
			turned := []byte(b)
			turned[i/8] ^= 1 << (i % 8)
			if decodedBytes(t, string(turned)) != nil {
				right++
			}
		}
	}
	if right < 20 {
		t.Error(right)
	}
}

func TestDecodeLongerForm(t *testing.T) {
	for _, c := range bases()[:4] {
		l := c.numbers()
		for i, n := range l {
			short := number(uint64(n))
			for _, zeros := range []string{"\x00", "\x00\x00", "\x00\x00\x00\x00"} {
				long := string([]byte{short[0] + byte(len(zeros))}) + zeros + short[1:]
				isNone(t, "a longer form", join(l[:i])+long+join(l[i+1:]))
			}
			for _, first := range []byte{9, 16, 17, 128, 255} {
				isNone(t, "no number", join(l[:i])+string([]byte{first, 1, 1, 1, 1, 1, 1, 1, 1, 1})+join(l[i+1:]))
			}
		}
	}
}

// TestDecodeOtherNumbers: each number of a code as another one, left out, doubled, or in its neighbour's place.
func TestDecodeOtherNumbers(t *testing.T) {
	right, wrong := 0, 0
	count := func(l []int) {
		t.Helper()
		if decodedBytes(t, join(l)) != nil {
			right++
		} else {
			wrong++
		}
	}
	for _, c := range bases()[:4] {
		l := c.numbers()
		for i, n := range l {
			for _, other := range append(far, 0, 1, 2, 3, 4, 5, 6, 7, 8, 9, 10, 11, 12, 60, 61, 255, 256, 599, 600, greatest, n-1, n+1) {
				count(slices.Concat(l[:i], []int{other}, l[i+1:]))
			}
			count(slices.Concat(l[:i], l[i+1:]))
			count(slices.Concat(l[:i], l[i:i+1], l[i:]))
			if i > 0 {
				count(slices.Concat(l[:i-1], []int{n, l[i-1]}, l[i+1:]))
			}
		}
	}
	if right < 100 || wrong < 1000 {
		t.Error(right, wrong)
	}
}

// TestDecodeDrawnBytes: bytes of no kind, and codes with several bytes changed.
func TestDecodeDrawnBytes(t *testing.T) {
	r := rand.New(rand.NewSource(1))
	codes := bases()[:4]
	for range 20000 {
		b := make([]byte, r.Intn(40))
		for i := range b {
			b[i] = byte(r.Intn([]int{3, 13, 256}[r.Intn(3)]))
		}
		decodedBytes(t, string(b))
		c := []byte(codes[r.Intn(4)].bytes())
		for range 1 + r.Intn(3) {
			c[r.Intn(len(c))] = byte(r.Intn(13))
		}
		decodedBytes(t, string(c))
	}
}

// TestDecodeGreat: counts that no bytes stand behind take no room, and much that comes behind is not looked at.
func TestDecodeGreat(t *testing.T) {
	for _, c := range bases()[:3] {
		isNone(t, "a great deal behind", c.bytes()+string(make([]byte, api.MaxBytes)))
	}
	isNone(t, "zeros", string(make([]byte, api.MaxBytes)))
	start := code{1, 60, []int{10}, []int{600, 600}, nil}.numbers()
	start = start[:len(start)-1]
	for _, l := range [][]int{{1, 1, math.MaxInt}, {1, 1, -1}, {1, 1, 1, 10, math.MaxInt}, {1, 1, 1, 10, -1}, append(start, math.MaxInt), append(start, 1, 1, 0, 600, math.MaxInt)} {
		isNone(t, "a great count", join(l))
	}
}
