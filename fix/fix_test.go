package fix

import (
	"math"
	"math/big"
	"testing"

	"ceilidh/api"
)

// edges are numbers around each place at which something may go wrong: the
// ends, 0, powers of two and of ten, and others between.
func edges() []int32 {
	list := []int32{0, 1, -1, 3, -3, most, most - 1, least, least + 1, 92681, -92681, 46340, 46341, -46341}
	for bit := 1; bit < 31; bit++ {
		p := int32(1) << bit
		list = append(list, p-1, p, p+1, -p-1, -p, -p+1, p+p/2)
	}
	for ten := int32(10); ten <= 1_000_000_000/10; ten *= 10 {
		list = append(list, ten, -ten, 7*ten, -7*ten)
	}
	seed := uint32(1)
	for range 60 {
		seed = seed*1664525 + 1013904223
		list = append(list, int32(seed), int32(seed)>>13)
	}
	return list
}

// ended is v, brought to int32's ends.
func ended(v *big.Int) int32 {
	switch {
	case v.Cmp(big.NewInt(most)) > 0:
		return most
	case v.Cmp(big.NewInt(least)) < 0:
		return least
	}
	return int32(v.Int64())
}

// Promise 2.1: what is no number, what is beyond the ends, and what lies at
// them.
func TestOfEdges(t *testing.T) {
	inf := math.Inf(1)
	top, bottom := float64(most)/65536, float64(least)/65536
	for _, c := range []struct {
		name string
		f    float64
		want int32
	}{
		{"NaN", math.NaN(), 0},
		{"NaN with its sign set", math.Float64frombits(0xfff8000000000001), 0},
		{"signalling NaN", math.Float64frombits(0x7ff0000000000001), 0},
		{"+0", 0, 0},
		{"-0", math.Copysign(0, -1), 0},
		{"+Inf", inf, most},
		{"-Inf", -inf, least},
		{"the greatest float", math.MaxFloat64, most},
		{"the least float", -math.MaxFloat64, least},
		{"the smallest float", math.SmallestNonzeroFloat64, 0},
		{"the smallest float below 0", -math.SmallestNonzeroFloat64, 0},
		{"a number whose product is infinite", math.Ldexp(1, 1010), most},
		{"the same below 0", math.Ldexp(-1, 1010), least},
		{"the greatest", top, most},
		{"just above the greatest", math.Nextafter(top, inf), most},
		{"just below the greatest", math.Nextafter(top, 0), most - 1},
		{"2 to the 15", 32768, most},
		{"just below 2 to the 15", math.Nextafter(32768, 0), most},
		{"the least", bottom, least},
		{"just below the least", math.Nextafter(bottom, -inf), least},
		{"just above the least", math.Nextafter(bottom, 0), least + 1},
		{"beyond int64", 1e15, most},
		{"beyond int64, below 0", -1e15, least},
	} {
		if got := Of(c.f); got != c.want {
			t.Errorf("Of %s (%v): %d, not %d", c.name, c.f, got, c.want)
		}
	}
}

// Promise 2.1: what is behind the point is left out, on both sides of 0.
func TestOfBehindThePoint(t *testing.T) {
	for _, c := range []struct {
		f    float64
		want int32
	}{
		{1, api.One}, {-1, -api.One}, {0.5, 32768}, {-0.5, -32768}, {0.1, 6553}, {-0.1, -6553},
		{1.0 / 65536, 1}, {-1.0 / 65536, -1}, {0.999 / 65536, 0}, {-0.999 / 65536, 0},
		{1.5 / 65536, 1}, {-1.5 / 65536, -1}, {2.999 / 65536, 2}, {-2.999 / 65536, -2},
		{math.Pi, 205887}, {-math.Pi, -205887}, {12345.678, 809086353}, {-12345.678, -809086353},
	} {
		if got := Of(c.f); got != c.want {
			t.Errorf("Of(%v): %d, not %d", c.f, got, c.want)
		}
	}
}

// holdsOf tells it, if Of(f) isn't what exact numbers make of f.
func holdsOf(t *testing.T, f float64) {
	t.Helper()
	want := int32(0)
	switch {
	case math.IsInf(f, 1):
		want = most
	case math.IsInf(f, -1):
		want = least
	case !math.IsNaN(f):
		v, _ := new(big.Float).Mul(big.NewFloat(f), big.NewFloat(65536)).Int(nil)
		want = ended(v)
	}
	if got := Of(f); got != want {
		t.Fatalf("Of(%v): %d, not %d", f, got, want)
	}
}

// Promise 2.1: each exponent, both signs, the ends of the fractions and
// fractions between.
func TestOfWhateverIsHandedOver(t *testing.T) {
	fractions := []uint64{0, 1, 1 << 51, 1<<51 + 1, 1<<52 - 1}
	for i := range uint64(11) {
		fractions = append(fractions, (i+1)*0x9e3779b97f4a7c15>>12)
	}
	for e := range uint64(2048) {
		for _, m := range fractions {
			holdsOf(t, math.Float64frombits(e<<52|m))
			holdsOf(t, math.Float64frombits(1<<63|e<<52|m))
		}
	}
}

// Promise 2.1: the value is exact, and what it came from.
func TestFloat(t *testing.T) {
	for _, c := range []struct {
		a    int32
		want float64
	}{
		{0, 0}, {1, 1.0 / 65536}, {-1, -1.0 / 65536}, {api.One, 1}, {-api.One, -1}, {api.One / 4, 0.25},
		{api.Side, 256}, {least, -32768}, {most, 32768 - 1.0/65536},
	} {
		if got := Float(c.a); math.Float64bits(got) != math.Float64bits(c.want) {
			t.Errorf("Float(%d): %v, not %v", c.a, got, c.want)
		}
	}
	for _, a := range edges() {
		if got := Of(Float(a)); got != a {
			t.Errorf("Of(Float(%d)): %d", a, got)
		}
	}
}

// Promise 2.2: the rounding of products and quotients, told by hand.
func TestTowardsNought(t *testing.T) {
	for _, c := range []struct {
		name      string
		got, want int32
	}{
		{"a half by a half", Mul(api.One/2, api.One/2), api.One / 4},
		{"1 by 1", Mul(1, 1), 0},
		{"-1 by 1", Mul(-1, 1), 0},
		{"-1 by one and a half", Mul(-1, api.One+api.One/2), -1},
		{"3 by a half", Mul(3, api.One/2), 1},
		{"-3 by a half", Mul(-3, api.One/2), -1},
		{"-3 by minus a half", Mul(-3, -api.One/2), 1},
		{"the greatest that is not cut", Mul(most, api.One), most},
		{"the least that is not cut", Mul(least, api.One), least},
		{"the least by minus one", Mul(least, -api.One), most},
		{"the least by itself", Mul(least, least), most},
		{"the ends", Mul(least, most), least},
		{"one by two", Div(api.One, 2*api.One), api.One / 2},
		{"one by three", Div(api.One, 3*api.One), 21845},
		{"minus one by three", Div(-api.One, 3*api.One), -21845},
		{"one by minus three", Div(api.One, -3*api.One), -21845},
		{"two by three", Div(2*api.One, 3*api.One), 43690},
		{"minus two by minus three", Div(-2*api.One, -3*api.One), 43690},
		{"-1 by two", Div(-1, 2*api.One), 0},
		{"1 by the least", Div(1, least), 0},
		{"the least by minus one", Div(least, -api.One), most},
		{"the least by -1", Div(least, -1), most},
		{"the least by 1", Div(least, 1), least},
		{"the least by itself", Div(least, least), api.One},
		{"1 by 0", Div(1, 0), most},
		{"-1 by 0", Div(-1, 0), least},
		{"the greatest by 0", Div(most, 0), most},
		{"the least by 0", Div(least, 0), least},
		{"0 by 0", Div(0, 0), 0},
		{"0 by -5", Div(0, -5), 0},
	} {
		if c.got != c.want {
			t.Errorf("%s: %d, not %d", c.name, c.got, c.want)
		}
	}
}

// holdsPair tells it, if a sum, a difference, a product or a quotient of a and
// b isn't what exact numbers make of them.
func holdsPair(t *testing.T, a, b int32) {
	t.Helper()
	x, y, one := big.NewInt(int64(a)), big.NewInt(int64(b)), big.NewInt(65536)
	exact := func() *big.Int { return new(big.Int) }
	check := func(name string, got, want int32) {
		t.Helper()
		if got != want {
			t.Fatalf("%s(%d, %d): %d, not %d", name, a, b, got, want)
		}
	}
	check("Add", Add(a, b), ended(exact().Add(x, y)))
	check("Sub", Sub(a, b), ended(exact().Sub(x, y)))
	product := exact().Mul(x, y)
	check("Mul", Mul(a, b), ended(product.Quo(product, one)))
	quotient := int32(0)
	switch {
	case b != 0:
		above := exact().Mul(x, one)
		quotient = ended(above.Quo(above, y))
	case a > 0:
		quotient = most
	case a < 0:
		quotient = least
	}
	check("Div", Div(a, b), quotient)
}

// Promises 2.2 and 2.3: any two edges.
func TestPairs(t *testing.T) {
	for _, a := range edges() {
		for _, b := range edges() {
			holdsPair(t, a, b)
		}
	}
}

// holdsRoot tells it, if Root(a) isn't the greatest number whose square isn't
// above a.
func holdsRoot(t *testing.T, a int32) {
	t.Helper()
	want := int32(0)
	if a > 0 {
		square := new(big.Int).Lsh(big.NewInt(int64(a)), 16)
		want = ended(square.Sqrt(square))
	}
	if got := Root(a); got != want {
		t.Fatalf("Root(%d): %d, not %d", a, got, want)
	}
}

// Promises 2.2 and 2.3.
func TestRoot(t *testing.T) {
	for _, c := range []struct{ a, want int32 }{
		{0, 0}, {-1, 0}, {least, 0}, {1, 256}, {2, 362}, {3, 443}, {4, 512}, {api.One / 4, api.One / 2},
		{api.One, api.One}, {api.One - 1, api.One - 1}, {2 * api.One, 92681}, {4 * api.One, 2 * api.One},
		{4*api.One - 1, 2*api.One - 1}, {9 * api.One, 3 * api.One}, {most, 11863283},
	} {
		if got := Root(c.a); got != c.want {
			t.Errorf("Root(%d): %d, not %d", c.a, got, c.want)
		}
	}
	for _, a := range edges() {
		holdsRoot(t, a)
	}
	for a := range int32(20000) {
		holdsRoot(t, a)
		holdsRoot(t, most-a)
	}
}

// Promise 2.2: at each whole square the root goes up by one whole number.
func TestRootOfSquares(t *testing.T) {
	for n := int32(1); n <= 181; n++ {
		square := n * n * api.One
		if got := Root(square); got != n*api.One {
			t.Fatalf("Root(%d): %d, not %d", square, got, n*api.One)
		}
		if got := Root(square - 1); got != n*api.One-1 {
			t.Fatalf("Root(%d): %d, not %d", square-1, got, n*api.One-1)
		}
	}
}

// Promise 2.2.
func TestClamp(t *testing.T) {
	for _, c := range []struct{ a, lo, hi, want int32 }{
		{5, 0, 9, 5}, {0, 0, 9, 0}, {9, 0, 9, 9}, {-1, 0, 9, 0}, {10, 0, 9, 9},
		{5, 5, 5, 5}, {4, 5, 5, 5}, {6, 5, 5, 5},
		{5, 9, 0, 0}, {-5, 9, 0, 0}, {50, 9, 0, 0}, {0, most, least, least}, {0, 1, 0, 0},
		{least, -9, -5, -9}, {most, -9, -5, -5}, {least, least, most, least}, {most, least, most, most},
		{0, most, most, most}, {0, least, least, least},
	} {
		if got := Clamp(c.a, c.lo, c.hi); got != c.want {
			t.Errorf("Clamp(%d, %d, %d): %d, not %d", c.a, c.lo, c.hi, got, c.want)
		}
	}
}

// Promise 2.2: any three of some numbers.
func TestClampAny(t *testing.T) {
	some := []int32{least, least + 1, -70000, -1, 0, 1, 70000, most - 1, most}
	for _, a := range some {
		for _, lo := range some {
			for _, hi := range some {
				want := a
				switch {
				case lo > hi || a > hi:
					want = hi
				case a < lo:
					want = lo
				}
				if got := Clamp(a, lo, hi); got != want {
					t.Fatalf("Clamp(%d, %d, %d): %d, not %d", a, lo, hi, got, want)
				}
			}
		}
	}
}

// Promise 2.3: an orbit, in which each step leans on the one ahead, goes the
// same way for everybody. The sum was reckoned by another program, with whole
// numbers of any size.
func TestEverybodyTheSame(t *testing.T) {
	x, y, vx, vy := int32(2*api.One), int32(0), Of(0.1), Of(-0.6)
	sum := uint32(0)
	for range 20000 {
		far := Root(Add(Mul(x, x), Mul(y, y)))
		pull := Mul(Mul(far, far), far)
		vx = Clamp(Sub(vx, Of(Float(Div(x, pull))/30)), -2*api.One, 2*api.One)
		vy = Clamp(Sub(vy, Div(y, Mul(30*api.One, pull))), -2*api.One, 2*api.One)
		x = Add(x, Div(vx, 30*api.One))
		y = Add(y, Div(vy, 30*api.One))
		sum = sum*31 + uint32(x) + 7*uint32(y)
	}
	if sum != 205576284 {
		t.Errorf("the orbit's sum is %d", sum)
	}
}

// Promises 2.1 to 2.3.
func FuzzAll(f *testing.F) {
	f.Add(int32(most), int32(least), uint64(0))
	f.Add(int32(least), int32(-1), math.Float64bits(math.NaN()))
	f.Add(int32(-1), int32(0), math.Float64bits(math.Inf(-1)))
	f.Fuzz(func(t *testing.T, a, b int32, bits uint64) {
		holdsPair(t, a, b)
		holdsRoot(t, a)
		holdsOf(t, math.Float64frombits(bits))
		if got := Of(Float(a)); got != a {
			t.Fatalf("Of(Float(%d)): %d", a, got)
		}
	})
}
