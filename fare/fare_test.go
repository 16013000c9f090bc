package fare

import (
	"math"
	"math/big"
	"math/rand"
	"slices"
	"sort"
	"testing"

	"jetway/api"
)

const (
	leastNormal = 0x1p-1022
	beforeOne   = 1 - 0x1p-53
	behindOne   = 1 + 0x1p-52
)

// ascending are bit patterns in the order of Key: those with the sign bit, by falling bits, and then the others, by rising bits.
func ascending() []uint64 {
	rising := []uint64{
		0, 1, 2, // 0 and the smallest numbers
		0x000FFFFFFFFFFFFF, 0x0010000000000000, 0x0010000000000001, // about the least normal number
		math.Float64bits(0.5), math.Float64bits(beforeOne), math.Float64bits(1), math.Float64bits(behindOne),
		math.Float64bits(2), math.Float64bits(2.5), math.Float64bits(10000), math.Float64bits(1e300),
		0x7FEFFFFFFFFFFFFE, 0x7FEFFFFFFFFFFFFF, // the greatest numbers
		0x7FF0000000000000,                                                                                 // the infinity
		0x7FF0000000000001, 0x7FF7FFFFFFFFFFFF, 0x7FF8000000000000, 0x7FF8000000000001, 0x7FFFFFFFFFFFFFFF, // NaN
	}
	var out []uint64
	for _, u := range slices.Backward(rising) {
		out = append(out, u|1<<63)
	}
	return append(out, rising...)
}

// someBits are pseudo-random patterns, but the same in every run; many are of NaN, zeros or numbers close to each other.
func someBits(seed int64, n int) []uint64 {
	random := rand.New(rand.NewSource(seed))
	edges := ascending()
	out := slices.Clone(edges)
	for range n {
		switch random.Intn(4) {
		case 0:
			out = append(out, edges[random.Intn(len(edges))]+uint64(random.Intn(5))-2)
		case 1:
			out = append(out, random.Uint64()|0x7FF0000000000000)
		case 2:
			out = append(out, math.Float64bits(random.NormFloat64()))
		default:
			out = append(out, random.Uint64())
		}
	}
	return out
}

func floats(bits []uint64) []float64 {
	out := make([]float64, len(bits))
	for i, u := range bits {
		out[i] = math.Float64frombits(u)
	}
	return out
}

func sign(less, greater bool) int {
	if less {
		return -1
	}
	if greater {
		return 1
	}
	return 0
}

// plainKey follows the document's words by another means than the package does: in numbers that do not wrap round.
func plainKey(u uint64) uint64 {
	half := new(big.Int).Lsh(big.NewInt(1), 63)
	bits := new(big.Int).SetUint64(u)
	if bits.Cmp(half) < 0 {
		return bits.Add(bits, half).Uint64()
	}
	last := new(big.Int).Lsh(half, 1)
	last.Sub(last, big.NewInt(1))
	return last.Sub(last, bits).Uint64()
}

// plainRank compares numbers as fractions of whole numbers, and knows NaN and infinities by name.
func plainRank(a, b float64) int {
	place := func(f float64) int {
		switch {
		case math.IsNaN(f):
			return 0
		case math.IsInf(f, -1):
			return 1
		case math.IsInf(f, 1):
			return 3
		}
		return 2
	}
	if x, y := place(a), place(b); x != 2 || y != 2 {
		return sign(x < y, x > y)
	}
	return new(big.Rat).SetFloat64(a).Cmp(new(big.Rat).SetFloat64(b))
}

// plainLevel rounds the exact product of a fraction from above 0 to below 1 and of seats to 53 bits, and then down.
func plainLevel(part float64, seats int) int {
	product := new(big.Float).SetPrec(53).SetMode(big.ToNearestEven)
	product.Mul(big.NewFloat(part), big.NewFloat(float64(seats)))
	whole, _ := product.Int64()
	return int(whole)
}

func wantLevel(t *testing.T, part float64, seats, want int) {
	t.Helper()
	if got, e := Level(part, seats); got != want || e != api.OK {
		t.Errorf("Level(%v, %d) = %d, error %d; want %d", part, seats, got, e, want)
	}
}

// P3.1

func TestKeyOfNamedFloats(t *testing.T) {
	for _, c := range []struct {
		f    float64
		want uint64
	}{
		{0, 1 << 63},
		{math.Copysign(0, -1), 1<<63 - 1},
		{math.SmallestNonzeroFloat64, 1<<63 + 1},
		{-math.SmallestNonzeroFloat64, 1<<63 - 2},
		{leastNormal, 0x8010000000000000},
		{-leastNormal, 0x7FEFFFFFFFFFFFFF},
		{1, 0xBFF0000000000000},
		{-1, 0x400FFFFFFFFFFFFF},
		{-2.5, 0x3FFBFFFFFFFFFFFF},
		{math.MaxFloat64, 0xFFEFFFFFFFFFFFFF},
		{-math.MaxFloat64, 0x0010000000000000},
		{math.Inf(1), 0xFFF0000000000000},
		{math.Inf(-1), 0x000FFFFFFFFFFFFF},
		{math.Float64frombits(0x7FF0000000000001), 0xFFF0000000000001},
		{math.Float64frombits(0xFFF0000000000001), 0x000FFFFFFFFFFFFE},
		{math.Float64frombits(0x7FF8000000000000), 0xFFF8000000000000},
		{math.Float64frombits(0xFFF8000000000000), 0x0007FFFFFFFFFFFF},
		{math.Float64frombits(math.MaxInt64), math.MaxUint64},
		{math.Float64frombits(math.MaxUint64), 0},
	} {
		if got := Key(c.f); got != c.want {
			t.Errorf("Key(%v) = %#x, want %#x", c.f, got, c.want)
		}
		if got := math.Float64bits(Of(c.want)); got != math.Float64bits(c.f) {
			t.Errorf("Of(%#x) has the bits %#x", c.want, got)
		}
	}
}

func TestKeyIsAsTheWordsSay(t *testing.T) {
	for _, u := range someBits(1, 100000) {
		if got, want := Key(math.Float64frombits(u)), plainKey(u); got != want {
			t.Fatalf("Key of the bits %#x = %#x, want %#x", u, got, want)
		}
	}
}

func TestOfExample(t *testing.T) {
	if got := Of(Key(-2.5)); got != -2.5 {
		t.Errorf("got %v", got)
	}
}

func TestOrderOfAllEdges(t *testing.T) {
	l := floats(ascending())
	for i, a := range l {
		for j, b := range l {
			if got, want := Order(a, b), sign(i < j, i > j); got != want {
				t.Errorf("Order(%v, %v) = %d, want %d (places %d and %d)", a, b, got, want, i, j)
			}
		}
	}
}

func TestOrderExample(t *testing.T) {
	if got := Order(math.Copysign(0, -1), 0); got != -1 {
		t.Errorf("got %d", got)
	}
}

func TestOrderIsThatOfKeys(t *testing.T) {
	l := floats(someBits(2, 100000))
	for i, a := range l {
		b := l[(i*7919+1)%len(l)]
		x, y := plainKey(math.Float64bits(a)), plainKey(math.Float64bits(b))
		if got, want := Order(a, b), sign(x < y, x > y); got != want {
			t.Fatalf("Order(%v, %v) = %d, want %d", a, b, got, want)
		}
	}
}

// P3.2

func TestRankOfNamedFloats(t *testing.T) {
	zero, minus := 0.0, math.Copysign(0, -1)
	nan, negative := math.NaN(), math.Copysign(math.NaN(), -1)
	signaling := math.Float64frombits(0x7FF0000000000001)
	up, down := math.Inf(1), math.Inf(-1)
	for _, c := range []struct {
		a, b float64
		want int
	}{
		{minus, zero, 0}, {zero, zero, 0}, {minus, minus, 0}, {1.5, 1.5, 0},
		{up, up, 0}, {down, down, 0}, {math.MaxFloat64, math.MaxFloat64, 0},
		{nan, nan, 0}, {nan, negative, 0}, {negative, signaling, 0},
		{nan, down, -1}, {negative, down, -1}, {signaling, minus, -1}, {nan, zero, -1},
		{nan, -math.MaxFloat64, -1}, {nan, math.MaxFloat64, -1}, {nan, up, -1},
		{1, 2, -1}, {-2, -1, -1}, {down, up, -1}, {down, -math.MaxFloat64, -1}, {math.MaxFloat64, up, -1},
		{minus, math.SmallestNonzeroFloat64, -1}, {-math.SmallestNonzeroFloat64, zero, -1},
		{math.SmallestNonzeroFloat64, leastNormal, -1}, {beforeOne, 1, -1}, {1, behindOne, -1},
	} {
		if got := Rank(c.a, c.b); got != c.want {
			t.Errorf("Rank(%v, %v) = %d, want %d", c.a, c.b, got, c.want)
		}
		if got := Rank(c.b, c.a); got != -c.want {
			t.Errorf("Rank(%v, %v) = %d, want %d", c.b, c.a, got, -c.want)
		}
	}
}

func TestRankIsAsTheWordsSay(t *testing.T) {
	l := floats(ascending())
	for _, a := range l {
		for _, b := range l {
			if got, want := Rank(a, b), plainRank(a, b); got != want {
				t.Errorf("Rank(%v, %v) = %d, want %d", a, b, got, want)
			}
		}
	}
	l = floats(someBits(3, 20000))
	for i, a := range l {
		b := l[(i*7919+1)%len(l)]
		if got, want := Rank(a, b), plainRank(a, b); got != want {
			t.Fatalf("Rank(%v, %v) = %d, want %d", a, b, got, want)
		}
	}
}

// P3.3

func TestLevelRefusesWrongSeats(t *testing.T) {
	parts := []float64{math.NaN(), math.Inf(-1), -1, math.Copysign(0, -1), 0, 0.5, 1, 2, math.Inf(1)}
	for _, part := range parts {
		for _, seats := range []int{-1, -7, -10000, math.MinInt, 10001, 20000, 1 << 32, math.MaxInt} {
			if n, e := Level(part, seats); n != 0 || e != api.ErrArg {
				t.Errorf("Level(%v, %d) = %d, error %d; want 0, error 1", part, seats, n, e)
			}
		}
	}
}

func TestLevelExamples(t *testing.T) {
	wantLevel(t, 0.5, 7, 3)
	wantLevel(t, math.NaN(), 7, 0)
	wantLevel(t, math.Inf(1), 7, 7)
}

func TestLevelOfPartsOutsideTheFractions(t *testing.T) {
	none := []float64{
		0, math.Copysign(0, -1), math.Inf(-1), -math.MaxFloat64, -2, -1, -0.5, -leastNormal, -math.SmallestNonzeroFloat64,
		math.NaN(), math.Copysign(math.NaN(), -1),
		math.Float64frombits(0x7FF0000000000001), math.Float64frombits(0xFFF0000000000001),
		math.Float64frombits(math.MaxInt64), math.Float64frombits(math.MaxUint64),
	}
	all := []float64{1, behindOne, 1.5, 2, 1e300, math.MaxFloat64, math.Inf(1)}
	for _, seats := range []int{0, 1, 2, 7, 9999, 10000} {
		for _, part := range none {
			wantLevel(t, part, seats, 0)
		}
		for _, part := range all {
			wantLevel(t, part, seats, seats)
		}
	}
}

func TestLevelBesideTheEnds(t *testing.T) {
	for seats := range api.MaxSeats + 1 {
		wantLevel(t, math.SmallestNonzeroFloat64, seats, 0)
		wantLevel(t, leastNormal, seats, 0)
		wantLevel(t, 0x1p-53, seats, 0)
		// The product is rounded, but not up to all of the seats.
		wantLevel(t, beforeOne, seats, max(seats-1, 0))
		wantLevel(t, 1, seats, seats)
		wantLevel(t, behindOne, seats, seats)
	}
}

func TestLevelRoundsTheProductAndThenDown(t *testing.T) {
	wantLevel(t, 0.1, 10, 1)
	wantLevel(t, 0.29, 100, 28)
	wantLevel(t, 0.55, 10, 5)
	wantLevel(t, 0.999, 7, 6)
	// The float 1.0/3 is less than a third: the exact product would be below 1, the rounded one is 1.
	wantLevel(t, 1.0/3, 3, 1)
	wantLevel(t, math.Nextafter(1.0/3, 0), 3, 0)
	wantLevel(t, 0.25, 10000, 2500)
	wantLevel(t, math.Nextafter(0.25, 0), 10000, 2499)
}

func TestLevelIsAsTheWordsSay(t *testing.T) {
	for seats := range 200 {
		for n := 1; n < seats; n++ {
			part := float64(n) / float64(seats)
			for _, p := range []float64{math.Nextafter(part, 0), part, math.Nextafter(part, 1)} {
				wantLevel(t, p, seats, plainLevel(p, seats))
			}
		}
	}
	random := rand.New(rand.NewSource(4))
	for range 100000 {
		part, seats := random.Float64(), random.Intn(api.MaxSeats+1)
		if part == 0 {
			continue
		}
		wantLevel(t, part, seats, plainLevel(part, seats))
	}
}

// P3.4

func TestSumOfNamedFloats(t *testing.T) {
	minus, greatest := math.Copysign(0, -1), math.MaxFloat64
	up, down := math.Inf(1), math.Inf(-1)
	for _, c := range []struct {
		l    []float64
		want float64
	}{
		{nil, 0}, {[]float64{}, 0}, {[]float64{0}, 0}, {[]float64{-2.5}, -2.5},
		{[]float64{minus}, 0}, {[]float64{minus, minus}, 0}, {[]float64{1, -1}, 0}, {[]float64{-1, 1}, 0},
		{[]float64{1, 2, 0.5}, 3.5},
		// From left to right, and each step rounded.
		{[]float64{1e16, 1, -1e16}, 0}, {[]float64{1, 1e16, -1e16}, 0}, {[]float64{1e16, -1e16, 1}, 1},
		{[]float64{1e16, 1, 1}, 1e16}, {[]float64{1, 1, 1e16}, 10000000000000002},
		{[]float64{0.1, 0.2, 0.3}, 0.6000000000000001}, {[]float64{0.3, 0.2, 0.1}, 0.6},
		// In pairs, this would be 10000000000000002.
		{[]float64{1e16, 0, 1, 1}, 1e16},
		{[]float64{math.SmallestNonzeroFloat64, math.SmallestNonzeroFloat64}, 1e-323},
		{[]float64{greatest, -greatest, greatest}, greatest},
		{[]float64{greatest, greatest, -greatest}, up}, {[]float64{-greatest, -greatest, greatest}, down},
		{[]float64{up}, up}, {[]float64{down, 5}, down}, {[]float64{greatest, up}, up},
	} {
		if got := Sum(c.l); math.Float64bits(got) != math.Float64bits(c.want) {
			t.Errorf("Sum(%v) = %v, want %v", c.l, got, c.want)
		}
	}
}

func TestSumThatIsNoNumber(t *testing.T) {
	nan := math.NaN()
	for _, l := range [][]float64{
		{nan}, {1, nan}, {nan, 1}, {nan, nan}, {math.Copysign(nan, -1)}, {math.Inf(1), nan},
		{math.Inf(1), math.Inf(-1)}, {math.Inf(-1), math.Inf(1), 5},
		{math.MaxFloat64, math.MaxFloat64, math.Inf(-1)},
	} {
		if got := Sum(l); !math.IsNaN(got) {
			t.Errorf("Sum(%v) = %v", l, got)
		}
	}
}

func TestSumRoundsEachStep(t *testing.T) {
	random := rand.New(rand.NewSource(5))
	for range 3000 {
		l := make([]float64, random.Intn(40))
		want := 0.0
		for i := range l {
			l[i] = math.Ldexp(random.NormFloat64(), random.Intn(80)-40)
			// Exact in so many bits, and then rounded once.
			exact := new(big.Float).SetPrec(400).Add(big.NewFloat(want), big.NewFloat(l[i]))
			want, _ = exact.Float64()
		}
		before := slices.Clone(l)
		if got := Sum(l); got != want {
			t.Fatalf("Sum(%v) = %v, want %v", l, got, want)
		}
		if !slices.Equal(l, before) {
			t.Fatal("the argument has changed")
		}
	}
}

// P3.5

func TestOrderIsTotal(t *testing.T) {
	l := floats(someBits(6, 120))
	for _, a := range l {
		for _, b := range l {
			x := Order(a, b)
			if x != -Order(b, a) || (x == 0) != (math.Float64bits(a) == math.Float64bits(b)) {
				t.Fatalf("Order(%v, %v) = %d, the other way round %d", a, b, x, Order(b, a))
			}
			for _, c := range l {
				if x <= 0 && Order(b, c) <= 0 && Order(a, c) > 0 {
					t.Fatalf("not transitive: %v, %v, %v", a, b, c)
				}
			}
		}
	}
}

func TestKeyAndOfAreInverse(t *testing.T) {
	patterns := someBits(7, 200000)
	for bit := range 64 {
		patterns = append(patterns, 1<<bit, 1<<bit-1, ^(uint64(1) << bit))
	}
	for _, u := range patterns {
		if got := math.Float64bits(Of(Key(math.Float64frombits(u)))); got != u {
			t.Fatalf("the bits %#x came back as %#x", u, got)
		}
		if got := Key(Of(u)); got != u {
			t.Fatalf("the key %#x came back as %#x", u, got)
		}
	}
}

func TestOrderAgreesWithRank(t *testing.T) {
	l := slices.DeleteFunc(floats(someBits(8, 800)), math.IsNaN)
	for _, a := range l {
		for _, b := range l {
			if a == 0 && b == 0 {
				continue
			}
			if x, y := Order(a, b), Rank(a, b); x != y {
				t.Fatalf("of %v and %v: Order %d, Rank %d", a, b, x, y)
			}
		}
	}
}

// risingParts are fractions in ascending order; close ones are among them, and such as are outside.
func risingParts(seats int) []float64 {
	out := []float64{math.Inf(-1), -1, 0, math.SmallestNonzeroFloat64, leastNormal, beforeOne, 1, behindOne, 2, math.Inf(1)}
	for n := 1; n < seats; n++ {
		part := float64(n) / float64(seats)
		out = append(out, math.Nextafter(part, 0), part, math.Nextafter(part, 1))
	}
	sort.Float64s(out)
	return out
}

func TestLevelRisesWithTheFraction(t *testing.T) {
	for _, seats := range []int{0, 1, 2, 3, 7, 49, 100, 187, 1000, 4097, 8192, 9999, 10000} {
		last := 0
		for _, part := range risingParts(seats) {
			n, e := Level(part, seats)
			if e != api.OK || n < last || n > seats {
				t.Fatalf("Level(%v, %d) = %d, error %d; ahead of it %d", part, seats, n, e, last)
			}
			last = n
		}
		if last != seats {
			t.Errorf("of %d seats, at most %d", seats, last)
		}
	}
}

func TestLevelRisesWithTheSeats(t *testing.T) {
	for _, part := range append(risingParts(97), math.NaN()) {
		last := 0
		for seats := range api.MaxSeats + 1 {
			n, e := Level(part, seats)
			if e != api.OK || n < last {
				t.Fatalf("Level(%v, %d) = %d, error %d; ahead of it %d", part, seats, n, e, last)
			}
			last = n
		}
	}
}
