package keep

import (
	"bytes"
	"fmt"
	"math"
	"math/rand"
	"testing"

	"jetway/api"
)

// P7.3: Part.

func TestPart(t *testing.T) {
	b := []byte{1, 2, 3}
	for at := -2; at <= 5; at++ {
		for size := -2; size <= 5; size++ {
			got, e := Part(b, at, size)
			if at < 0 || at > 3 || size < 1 {
				if len(got) != 0 || e != api.ErrArg {
					t.Errorf("Part(%d, %d): %v, error %d", at, size, got, e)
				}
				continue
			}
			var asked []byte
			for i := at; i < 3 && i-at < size; i++ {
				asked = append(asked, b[i])
			}
			if !bytes.Equal(got, asked) || e != api.OK {
				t.Errorf("Part(%d, %d): %v, error %d; want %v", at, size, got, e, asked)
			}
		}
	}
}

func TestPartOfLongBytes(t *testing.T) {
	b := someBytes(1, 65537)
	long := b[:65536]
	for _, c := range []struct{ at, size, end int }{
		{0, 1, 1}, {0, 65535, 65535}, {0, 65536, 65536}, {0, 65537, 65536}, {0, math.MaxInt, 65536},
		{1, 65535, 65536}, {1, 65536, 65536}, {1, math.MaxInt, 65536},
		{65535, 1, 65536}, {65535, 2, 65536}, {65536, 1, 65536}, {65536, math.MaxInt, 65536},
	} {
		got, e := Part(long, c.at, c.size)
		if !bytes.Equal(got, long[c.at:c.end]) || e != api.OK {
			t.Errorf("Part(%d, %d): %d bytes, error %d", c.at, c.size, len(got), e)
		}
	}
	for _, at := range []int{0, 1, 65536, 65537} {
		got, e := Part(b, at, 1)
		if len(got) != 0 || e != api.ErrArg {
			t.Errorf("Part of 65537 bytes at %d: %d bytes, error %d", at, len(got), e)
		}
	}
}

func TestPartFarOut(t *testing.T) {
	for _, n := range []int{0, 3, 65536} {
		b := make([]byte, n)
		for _, c := range []struct{ at, size int }{
			{math.MinInt, 1}, {-1, 1}, {n + 1, 1}, {math.MaxInt, 1}, {math.MaxInt, math.MaxInt},
			{0, 0}, {0, -1}, {0, math.MinInt}, {n, 0}, {n, math.MinInt}, {-1, 0},
		} {
			got, e := Part(b, c.at, c.size)
			if len(got) != 0 || e != api.ErrArg {
				t.Errorf("Part(%d, %d) of %d bytes: %v, error %d", c.at, c.size, n, got, e)
			}
		}
	}
}

func TestPartOfNothing(t *testing.T) {
	for _, b := range [][]byte{nil, {}} {
		got, e := Part(b, 0, 1)
		if len(got) != 0 || e != api.OK {
			t.Errorf("%v, error %d", got, e)
		}
	}
}

func TestPartSharesNothing(t *testing.T) {
	b := []byte{1, 2, 3, 4}
	got, e := Part(b, 1, 2)
	must(t, e)
	got[0] = 9
	_ = append(got, 8)
	if !bytes.Equal(b, []byte{1, 2, 3, 4}) {
		t.Errorf("the bytes are %v", b)
	}
	b[2] = 7
	if !bytes.Equal(got, []byte{9, 3}) {
		t.Errorf("the part is %v", got)
	}
}

// P7.3: Put and Done.

// chunk is what Put is given.
type chunk struct {
	at, total int
	b         string
}

// String is short, because a failing test tells it.
func (c chunk) String() string {
	return fmt.Sprintf("(%d of %d: %d bytes, %.10q)", c.at, c.total, len(c.b), c.b)
}

// plainWhole is the chunks that were taken.
type plainWhole []chunk

// since are the chunks from the last one at 0 on.
func (p plainWhole) since() plainWhole {
	for i := len(p) - 1; i >= 0; i-- {
		if p[i].at == 0 {
			return p[i:]
		}
	}
	return nil
}

func (p plainWhole) text() string {
	s := ""
	for _, c := range p.since() {
		s += c.b
	}
	return s
}

func (p plainWhole) take(c chunk) api.Errno {
	there := p.since()
	switch {
	case !within(0, c.total, 65536) || !within(0, c.at, c.total) || c.at+len(c.b) > c.total:
		return api.ErrArg
	case c.at > 0 && (len(there) == 0 || len(p.text()) != c.at || there[0].total != c.total):
		return api.ErrOrder
	}
	return api.OK
}

func (p plainWhole) done() (string, bool) {
	there := p.since()
	if len(there) == 0 || len(p.text()) != there[0].total {
		return "", false
	}
	return p.text(), true
}

// play puts chunks into a new Whole, and checks each answer.
func play(t *testing.T, chunks ...chunk) {
	t.Helper()
	var w Whole
	var p plainWhole
	wantDone(t, &w, p)
	for i, c := range chunks {
		asked := p.take(c)
		if e := w.Put(c.at, c.total, []byte(c.b)); e != asked {
			t.Fatalf("%v, chunk %d: error %d, want %d", chunks, i, e, asked)
		}
		if asked == api.OK {
			p = append(p, c)
		}
		wantDone(t, &w, p)
	}
}

func wantDone(t *testing.T, w *Whole, p plainWhole) {
	t.Helper()
	text, done := p.done()
	if b, ok := w.Done(); string(b) != text || ok != done {
		t.Fatalf("behind %v: %d bytes, %.10q, %v; want %d, %.10q, %v", p, len(b), b, ok, len(text), text, done)
	}
}

func TestPutExamples(t *testing.T) {
	var w Whole
	want(t, "first", w.Put(2, 3, []byte{3}), api.ErrOrder)
	must(t, w.Put(0, 3, []byte{1, 2}))
	if b, ok := w.Done(); len(b) != 0 || ok {
		t.Errorf("%v, %v", b, ok)
	}
	must(t, w.Put(2, 3, []byte{3}))
	if b, ok := w.Done(); !bytes.Equal(b, []byte{1, 2, 3}) || !ok {
		t.Errorf("%v, %v", b, ok)
	}
}

func TestPutOfAllSmallChunks(t *testing.T) {
	var chunks []chunk
	for at := -1; at <= 4; at++ {
		for total := -1; total <= 3; total++ {
			for n, b := range []string{"", "a", "bc", "def"} {
				// Those that are refused in the same way need not all be in every order.
				if n < 3 || at == 0 || total < 2 {
					chunks = append(chunks, chunk{at, total, b})
				}
			}
		}
	}
	for _, a := range chunks {
		for _, b := range chunks {
			for _, c := range chunks {
				play(t, a, b, c)
			}
		}
	}
}

func TestPutOfManyChunks(t *testing.T) {
	r := rand.New(rand.NewSource(9))
	done := 0
	for range 20000 {
		var chunks []chunk
		var p plainWhole
		total := r.Intn(9)
		for range 12 {
			// Mostly the chunk that comes next.
			c := chunk{len(p.text()), total, "abcdefgh"[:r.Intn(4)]}
			switch r.Intn(8) {
			case 0:
				c.at = r.Intn(10) - 1
			case 1:
				c.total = r.Intn(10) - 1
			}
			chunks = append(chunks, c)
			if p.take(c) == api.OK {
				p = append(p, c)
			}
		}
		if _, ok := p.done(); ok {
			done++
		}
		play(t, chunks...)
	}
	if done < 1000 {
		t.Errorf("only %d are done", done)
	}
}

func TestPutEdges(t *testing.T) {
	long := string(someBytes(2, 65536))
	play(t, chunk{0, 0, ""}, chunk{0, 0, "a"}, chunk{1, 0, ""})
	play(t, chunk{0, 1, ""}, chunk{1, 1, ""}, chunk{0, 1, "a"}, chunk{1, 1, ""}, chunk{1, 1, "b"})
	play(t, chunk{0, 65536, long})
	play(t, chunk{0, 65537, long}, chunk{0, 65537, ""}, chunk{0, 65537, long + "a"})
	play(t, chunk{0, 65536, long[:65535]}, chunk{65535, 65536, "ab"}, chunk{65535, 65536, "a"}, chunk{65536, 65536, ""}, chunk{65536, 65536, "b"})
	play(t, chunk{0, 65536, ""}, chunk{65536, 65536, ""}, chunk{0, 65536, long}, chunk{0, 65535, long}, chunk{65536, 65535, ""}, chunk{65537, 65536, ""})
	play(t, chunk{0, 5, "abc"}, chunk{3, 6, "d"}, chunk{3, 4, "d"}, chunk{2, 5, "d"}, chunk{4, 5, "d"}, chunk{3, 5, "d"}, chunk{3, 5, "d"}, chunk{4, 5, "e"})
	play(t, chunk{0, 3, "abc"}, chunk{0, 2, "d"}, chunk{1, 3, "e"}, chunk{1, 2, "e"}, chunk{0, 0, ""}, chunk{0, 1, ""})
}

func TestPutFarOut(t *testing.T) {
	for _, far := range []int{math.MinInt, math.MinInt + 1, -1, 65537, 1 << 32, math.MaxInt - 1, math.MaxInt} {
		for _, b := range [][]byte{nil, {1}, make([]byte, 70000)} {
			var w Whole
			must(t, w.Put(0, 3, []byte{1, 2}))
			want(t, fmt.Sprint("at ", far), w.Put(far, 3, b), api.ErrArg)
			want(t, fmt.Sprint("total ", far), w.Put(0, far, b), api.ErrArg)
			want(t, fmt.Sprint("both ", far), w.Put(far, far, b), api.ErrArg)
			want(t, fmt.Sprint("at the end, total ", far), w.Put(2, far, b), api.ErrArg)
			must(t, w.Put(2, 3, []byte{3}))
			if got, ok := w.Done(); !ok || !bytes.Equal(got, []byte{1, 2, 3}) {
				t.Errorf("%v, %v", got, ok)
			}
		}
	}
}

func TestNoWhole(t *testing.T) {
	var w *Whole
	want(t, "nil", w.Put(0, 0, nil), api.ErrArg)
	want(t, "nil", w.Put(1, 1, nil), api.ErrArg)
	if b, ok := w.Done(); len(b) != 0 || ok {
		t.Errorf("%v, %v", b, ok)
	}
}

func TestWholeSharesNothing(t *testing.T) {
	var w Whole
	first, second := make([]byte, 2, 9), []byte{3, 4}
	copy(first, []byte{1, 2})
	must(t, w.Put(0, 4, first))
	clear(first)
	must(t, w.Put(2, 4, second))
	clear(second)
	if !bytes.Equal(first[:4], make([]byte, 4)) {
		t.Errorf("Put wrote behind its argument: %v", first[:4])
	}
	a, ok := w.Done()
	if !ok || !bytes.Equal(a, []byte{1, 2, 3, 4}) {
		t.Fatalf("%v, %v", a, ok)
	}
	clear(a)
	b, ok := w.Done()
	if !ok || !bytes.Equal(b, []byte{1, 2, 3, 4}) {
		t.Fatalf("%v, %v", b, ok)
	}
	must(t, w.Put(0, 2, []byte{8, 9}))
	if !bytes.Equal(b, []byte{1, 2, 3, 4}) {
		t.Fatalf("a later Put changed what Done returned: %v", b)
	}
}

// P7.4: the chunks of a byte string, added in order, yield the byte string.

// gather puts the parts of b together, each of a size that is asked for.
func gather(t *testing.T, w *Whole, b []byte, size func() int) {
	t.Helper()
	at := 0
	for first := true; first || at < len(b); first = false {
		if !first {
			if got, ok := w.Done(); ok || len(got) != 0 {
				t.Fatalf("done at %d of %d", at, len(b))
			}
		}
		part, e := Part(b, at, size())
		must(t, e)
		must(t, w.Put(at, len(b), part))
		at += len(part)
	}
	if got, ok := w.Done(); !ok || !bytes.Equal(got, b) {
		t.Fatalf("%d bytes of %d, %v", len(got), len(b), ok)
	}
}

func TestChunksYieldTheBytes(t *testing.T) {
	// One Whole for all of them, because a chunk at 0 begins anew.
	var w Whole
	for n := range 60 {
		for size := 1; size <= n+2; size++ {
			gather(t, &w, someBytes(int64(n), n), func() int { return size })
		}
	}
	for _, n := range []int{60000, 65535, 65536} {
		for _, size := range []int{1, 1000, 4096, 32768, 65535, 65536, 65537, math.MaxInt} {
			gather(t, &w, someBytes(int64(n), n), func() int { return size })
		}
	}
	r := rand.New(rand.NewSource(10))
	for range 1000 {
		gather(t, &w, someBytes(r.Int63(), r.Intn(3000)), func() int { return 1 + r.Intn(1+r.Intn(2000)) })
	}
}

func TestASnapshotInChunks(t *testing.T) {
	var w Whole
	for _, s := range goodSnaps() {
		b, e := Encode(s)
		must(t, e)
		gather(t, &w, b, func() int { return 1000 })
		whole, _ := w.Done()
		got, e := Decode(whole)
		if e != api.OK || plainSnap(got) != plainSnap(s) {
			t.Fatalf("error %d; %.60q, want %.60q", e, plainSnap(got), plainSnap(s))
		}
	}
}
