package curve

import (
	"math"
	"math/big"
	"testing"
)

var (
	inf   = math.Inf(1)
	nan   = math.NaN()
	minus = math.Copysign(0, -1) // -0
	tiny  = math.SmallestNonzeroFloat64
	great = math.MaxFloat64
	// NaN of other bits: with the sign set, and a signalling one.
	nanBelow   = math.Float64frombits(0xfff8000000000001)
	nanSignals = math.Float64frombits(0x7ff0000000000001)
)

// edges are floats in the order in which they are to be seen, each but once.
func edges() []float64 {
	up := func(f float64) float64 { return math.Nextafter(f, inf) }
	down := func(f float64) float64 { return math.Nextafter(f, -inf) }
	return []float64{
		-inf, -great, -1e300, -1 << 53, -123.456, -2, down(-1), -1, up(-1), -0.75, down(-0.5), -0.5, up(-0.5), -0.1,
		-0x1p-54, -0x1p-1022, -tiny, minus, 0, tiny, 0x1p-1022, 0x1p-54, 0.1, 0.25, down(0.5), 0.5, up(0.5), 0.75, 0.9,
		down(1), 1, up(1), 2, 3.5, 123.456, 1<<53 - 1, 1 << 53, 1e300, great, inf, nan,
	}
}

// everyKind has each exponent, both signs, the ends of the fractions and
// fractions between: normal, subnormal, infinite and no number.
func everyKind(check func(f float64)) {
	fractions := []uint64{0, 1, 1 << 51, 1<<51 + 1, 1<<52 - 1}
	for i := range uint64(11) {
		fractions = append(fractions, (i+1)*0x9e3779b97f4a7c15>>12)
	}
	for e := range uint64(2048) {
		for _, m := range fractions {
			check(math.Float64frombits(e<<52 | m))
			check(math.Float64frombits(1<<63 | e<<52 | m))
		}
	}
}

// place is where f stands in the order of all floats, reckoned of its bits.
func place(f float64) uint64 {
	bits := math.Float64bits(f)
	switch {
	case f != f:
		return math.MaxUint64
	case bits>>63 == 1:
		return ^bits
	}
	return bits | 1<<63
}

// want tells it, if got isn't what is wanted, to the bit; all NaN are one.
func want(t *testing.T, name string, got, wanted float64) {
	t.Helper()
	if place(got) != place(wanted) {
		t.Errorf("%s: %v (%#x), not %v (%#x)", name, got, math.Float64bits(got), wanted, math.Float64bits(wanted))
	}
}

// Promise 3.1: any two edges, and each with itself.
func TestOrder(t *testing.T) {
	list := edges()
	for i, a := range list {
		for k, b := range list {
			if Same(a, b) != (i == k) {
				t.Errorf("Same(%v, %v): %v", a, b, i != k)
			}
			if Less(a, b) != (i < k) {
				t.Errorf("Less(%v, %v): %v", a, b, i >= k)
			}
		}
	}
}

// Promise 3.1: what its words name, by hand.
func TestOrderNamed(t *testing.T) {
	for _, c := range []struct {
		name       string
		a, b       float64
		same, less bool
	}{
		{"two NaN", nan, nan, true, false},
		{"NaN of two signs", nan, nanBelow, true, false},
		{"NaN of two signs, the other way", nanBelow, nan, true, false},
		{"NaN, one signalling", nanSignals, nan, true, false},
		{"a number and NaN", 1, nan, false, true},
		{"NaN and a number", nan, 1, false, false},
		{"NaN with its sign set, and a number", nanBelow, 1, false, false},
		{"-Inf and NaN with its sign set", -inf, nanBelow, false, true},
		{"+Inf and NaN", inf, nan, false, true},
		{"NaN and +Inf", nan, inf, false, false},
		{"NaN and -Inf", nan, -inf, false, false},
		{"+0 and -0", 0, minus, false, false},
		{"-0 and +0", minus, 0, false, true},
		{"two +0", 0, 0, true, false},
		{"two -0", minus, minus, true, false},
		{"+0 and NaN", 0, nan, false, true},
		{"two +Inf", inf, inf, true, false},
		{"two -Inf", -inf, -inf, true, false},
		{"-Inf and +Inf", -inf, inf, false, true},
		{"+Inf and -Inf", inf, -inf, false, false},
		{"the greatest and +Inf", great, inf, false, true},
		{"-Inf and the least", -inf, -great, false, true},
		{"the smallest below 0, and -0", -tiny, minus, false, true},
		{"+0 and the smallest", 0, tiny, false, true},
		{"-0 and the smallest", minus, tiny, false, true},
		{"a number and its opposite", 1, -1, false, false},
		{"opposite and number", -1, 1, false, true},
		{"two below 0", -2, -1, false, true},
		{"equal", 0.1, 0.1, true, false},
	} {
		if Same(c.a, c.b) != c.same {
			t.Errorf("Same of %s: not %v", c.name, c.same)
		}
		if Less(c.a, c.b) != c.less {
			t.Errorf("Less of %s: not %v", c.name, c.less)
		}
	}
}

// Promise 3.2.
func TestUnit(t *testing.T) {
	below, above := math.Nextafter(1, 0), math.Nextafter(1, 2)
	for _, c := range []struct {
		name   string
		t, out float64
	}{
		{"NaN", nan, 0},
		{"NaN with its sign set", nanBelow, 0},
		{"signalling NaN", nanSignals, 0},
		{"-Inf", -inf, 0},
		{"-1", -1, 0},
		{"the smallest below 0", -tiny, 0},
		{"-0", minus, 0},
		{"+0", 0, 0},
		{"the smallest", tiny, tiny},
		{"a quarter", 0.25, 0.25},
		{"a tenth", 0.1, 0.1},
		{"just below 1", below, below},
		{"1", 1, 1},
		{"just above 1", above, 1},
		{"2", 2, 1},
		{"the greatest", great, 1},
		{"+Inf", inf, 1},
	} {
		want(t, "Unit of "+c.name, Unit(c.t), c.out)
	}
}

// Promise 3.2: the cases of Mix in their order.
func TestMixCases(t *testing.T) {
	for _, c := range []struct {
		name         string
		a, b, t, out float64
	}{
		{"a quarter of the way", 0, 4, 0.25, 1},
		{"back", 4, 0, 0.75, 1},
		{"across 0", -3, 5, 0.5, 1},
		{"at 0", 3, 9, 0, 3},
		{"at 1", 3, 9, 1, 9},
		{"at -0", 3, 9, minus, 3},
		{"ahead of 0", 3, 9, -5, 3},
		{"behind 1", 3, 9, 5, 9},
		{"at NaN", 3, 9, nan, 3},
		{"at -Inf", 3, 9, -inf, 3},
		{"at +Inf", 3, 9, inf, 9},
		{"to NaN, at 0", 3, nan, 0, 3},
		{"from NaN, at 1", nan, 9, 1, 9},
		{"from NaN, at 0", nan, 9, 0, nan},
		{"to NaN, at 1", 3, nan, 1, nan},
		{"from NaN", nan, 9, 0.5, nan},
		{"to NaN", 3, nan, 0.5, nan},
		{"from +Inf to NaN", inf, nan, 0.5, nan},
		{"between two NaN", nan, nanBelow, 0.5, nan},
		{"from -0 at 0", minus, 9, 0, minus},
		{"to -0 at 1", 3, minus, 1, minus},
		{"from +Inf to itself", inf, inf, 0.5, inf},
		{"from -Inf to itself", -inf, -inf, 0.5, -inf},
		{"from -0 to +0", minus, 0, 0.5, minus},
		{"from +0 to -0", 0, minus, 0.5, 0},
		{"from -0 to itself", minus, minus, 0.5, minus},
		{"from a tenth to itself", 0.1, 0.1, 0.3, 0.1},
		{"from +Inf to -Inf", inf, -inf, 0.5, -inf},
		{"from -Inf to +Inf", -inf, inf, 0.5, inf},
		{"from -Inf to +Inf, at 0", -inf, inf, 0, -inf},
		{"from +Inf to a number", inf, 5, 0.5, 5},
		{"from -Inf to a number", -inf, 5, 0.5, 5},
		{"from +Inf to -0", inf, minus, 0.5, minus},
		{"from a number to +Inf", 5, inf, 0.5, inf},
		{"from a number to -Inf", 5, -inf, tiny, -inf},
		{"a way that is infinite", -1e308, 1e308, 0.5, inf},
		{"the same back", 1e308, -1e308, tiny, -inf},
		{"a way that is just finite", -great / 2, great / 2, 0.5, 0},
		{"half of the smallest", 0, tiny, 0.5, 0},
		{"more than half of it", 0, tiny, 0.75, tiny},
		{"half of the smallest, from -0", minus, -tiny, 0.5, minus},
		{"half of the smallest above -0", minus, tiny, 0.5, 0},
		{"half of the smallest below +0", 0, -tiny, 0.5, 0},
		{"what is too small to be seen", 1, 2, 0x1p-54, 1},
	} {
		want(t, "Mix "+c.name, Mix(c.a, c.b, c.t), c.out)
	}
}

// Promise 3.2: each operation is rounded, in the order that is told: fused, or
// weighed as a(1-u) + bu, each of these would be another number. Another
// program reckoned them.
func TestMixRounds(t *testing.T) {
	for _, c := range []struct{ a, b, t, out float64 }{
		{6, -1.1, 0.94, -0.6739999999999995},
		{7.4, -3.7, 0.96, -3.2560000000000002},
		{9.3, -5, 0.46, 2.7220000000000004},
		{-9.5, 1.4, 0.74, -1.4339999999999993},
		{4, -8, 0.32, 0.16000000000000014},
		{-3.3, 6.7, 0.44, 1.1000000000000005},
		{7.1, -6.6, 0.34, 2.4419999999999993},
		{-6.1, 0.7, 0.82, -0.524},
	} {
		want(t, "Mix", Mix(c.a, c.b, c.t), c.out)
	}
}

// Promise 3.2: the last numbers differ, if the product is made in another
// order, if squares and cubes are weighed, or if it is rounded but once.
func TestEase(t *testing.T) {
	for _, c := range []struct{ t, out float64 }{
		{0, 0}, {minus, 0}, {-1, 0}, {-inf, 0}, {nan, 0}, {nanBelow, 0}, {tiny, 0},
		{1, 1}, {2, 1}, {inf, 1}, {math.Nextafter(1, 0), 0.9999999999999998 + 0x1p-52},
		{0.5, 0.5}, {0.25, 0.15625}, {0.75, 0.84375}, {0.125, 0.04296875},
		{0.51, 0.514998}, {0.77, 0.8656339999999999}, {0.73, 0.8206659999999999}, {0.84, 0.9313919999999999},
		{0.71, 0.796478}, {0.14, 0.053312000000000005}, {0.17, 0.07687400000000003}, {0.45, 0.4252500000000001},
	} {
		want(t, "Ease", Ease(c.t), c.out)
	}
}

// Promise 3.3.
func TestTurn(t *testing.T) {
	below := math.Nextafter(0.5, 0)
	for _, c := range []struct {
		name   string
		a, out float64
	}{
		{"NaN", nan, 0},
		{"NaN with its sign set", nanBelow, 0},
		{"signalling NaN", nanSignals, 0},
		{"+Inf", inf, 0},
		{"-Inf", -inf, 0},
		{"+0", 0, 0},
		{"-0", minus, 0},
		{"a whole number", 3, 0},
		{"a whole number below 0", -3, 0},
		{"1", 1, 0},
		{"-1", -1, 0},
		{"a quarter", 0.25, 0.25},
		{"a quarter below 0", -0.25, -0.25},
		{"a half", 0.5, -0.5},
		{"a half below 0", -0.5, -0.5},
		{"one and a half", 1.5, -0.5},
		{"one and a half below 0", -1.5, -0.5},
		{"just below a half", below, below},
		{"just above a half", math.Nextafter(0.5, 1), -below + 0x1p-54},
		{"just above minus a half, rounded to a half", -below, -0.5},
		{"a little more", -below + 0x1p-54, -0.5 + 0x1p-53},
		{"just below minus a half", math.Nextafter(-0.5, -1), 0.5 - 0x1p-53},
		{"three quarters", 0.75, -0.25},
		{"three quarters below 0", -0.75, 0.25},
		{"two turns and more", 2.25, 0.25},
		{"two turns and more, below 0", -2.75, 0.25},
		{"just below 1", math.Nextafter(1, 0), -0x1p-53},
		{"the smallest", tiny, tiny},
		{"the smallest below 0, of which a turn is left by rounding", -tiny, 0},
		{"a small one below 0, so too", -1e-20, 0},
		{"one below 0 that isn't rounded", -0x1p-53, -0x1p-53},
		{"a half of that, rounded to 1", -0x1p-54, 0},
		{"a tenth", 0.1, 0.1},
		{"nine tenths below 0", -0.9, 0.09999999999999998},
		{"beyond int64", 1e300, 0},
		{"beyond int64, below 0", -1e300, 0},
		{"the last that has a half", 1<<52 - 0.5, -0.5},
		{"the same below 0", -(1<<52 - 0.5), -0.5},
		{"the greatest", great, 0},
		{"the least", -great, 0},
	} {
		want(t, "Turn of "+c.name, Turn(c.a), c.out)
	}
}

// exact are two finite floats, for operations that round nothing.
func exact(a, b float64) (x, y, z *big.Float) {
	const bits = 2200 // the greatest and the smallest float at once
	return big.NewFloat(a), big.NewFloat(b), new(big.Float).SetPrec(bits)
}

// finite tells whether a and b both are.
func finite(a, b float64) bool {
	return a-a == 0 && b-b == 0
}

// sum is a and b, rounded once; nothing is rounded of what isn't finite.
func sum(a, b float64) float64 {
	if !finite(a, b) {
		return a + b
	}
	x, y, z := exact(a, b)
	f, _ := z.Add(x, y).Float64()
	return f
}

// product is a times b, rounded once.
func product(a, b float64) float64 {
	if !finite(a, b) {
		return a * b
	}
	x, y, z := exact(a, b)
	f, _ := z.Mul(x, y).Float64()
	return f
}

// unit is chapter 3's Unit, told by the places of floats.
func unit(t float64) float64 {
	switch p := place(t); {
	case p == place(nan) || p <= place(0):
		return 0
	case p >= place(1):
		return 1
	}
	return t
}

// mix is chapter 3's Mix, of operations that are each rounded once.
func mix(a, b, t float64) float64 {
	u := unit(t)
	if u == 0 || u != 1 && a == b {
		return a
	}
	if u == 1 {
		return b
	}
	if a != a || b != b {
		return nan
	}
	m := sum(a, product(sum(b, -a), u))
	if m != m {
		return b
	}
	return m
}

// holdsOne tells it, if of f by itself something isn't as chapter 3 says.
func holdsOne(t *testing.T, f float64) {
	t.Helper()
	u := unit(f)
	want(t, "Unit", Unit(f), u)
	eased := product(product(u, u), sum(3, -product(2, u)))
	want(t, "Ease", Ease(f), eased)
	if !(eased >= 0 && eased <= 1) {
		t.Errorf("Ease(%v) leaves its ends: %v", f, eased)
	}
	part := 0.0
	if finite(f, f) {
		_, under := math.Modf(f)
		if under < 0 {
			under = sum(under, 1)
		}
		if part = under; part >= 0.5 {
			part = sum(part, -1)
		}
	}
	want(t, "Turn", Turn(f), part+0)
	if got := Turn(f); !(got >= -0.5 && got < 0.5) {
		t.Errorf("Turn(%v) leaves its ends: %v", f, got)
	}
	if t.Failed() {
		t.Fatalf("of %v (%#x)", f, math.Float64bits(f))
	}
}

// holdsTwo tells it, if of a and b, and between them at u, something isn't as
// chapter 3 says.
func holdsTwo(t *testing.T, a, b, u float64) {
	t.Helper()
	if Same(a, b) != (place(a) == place(b)) {
		t.Fatalf("Same(%v, %v): %v", a, b, Same(a, b))
	}
	if Less(a, b) != (place(a) < place(b)) {
		t.Fatalf("Less(%v, %v): %v", a, b, Less(a, b))
	}
	got := Mix(a, b, u)
	want(t, "Mix", got, mix(a, b, u))
	if math.IsNaN(got) && !math.IsNaN(a) && !math.IsNaN(b) {
		t.Errorf("no number between two numbers")
	}
	if t.Failed() {
		t.Fatalf("of %v and %v at %v", a, b, u)
	}
}

// Promises 3.2, 3.3 and 3.4: each exponent, both signs.
func TestOneWhateverIsHandedOver(t *testing.T) {
	everyKind(func(f float64) { holdsOne(t, f) })
	for _, f := range edges() {
		holdsOne(t, f)
		for n := -4.0; n <= 4; n += 0.125 {
			holdsOne(t, n+f)
			holdsOne(t, math.Nextafter(n, f))
		}
	}
}

// Promises 3.1, 3.2 and 3.4: any two edges, and any place between; and each
// kind of float with some others.
func TestTwoWhateverIsHandedOver(t *testing.T) {
	list := append(edges(), nanBelow, nanSignals)
	for _, a := range list {
		for _, b := range list {
			for _, u := range list {
				holdsTwo(t, a, b, u)
			}
		}
	}
	last := 1.0
	everyKind(func(f float64) {
		holdsTwo(t, f, last, 0.3)
		holdsTwo(t, last, f, f)
		holdsTwo(t, -f, f, 0.7)
		last = f
	})
}

// Promise 3.2: at many places of the unit, Ease and the way of Mix; Ease never
// goes back.
func TestAlongTheWay(t *testing.T) {
	const steps = 1 << 12
	last := 0.0
	for i := range steps + 1 {
		u := float64(i) / steps
		holdsOne(t, u)
		holdsTwo(t, -123.456, 78.9, u)
		if eased := Ease(u); eased < last {
			t.Fatalf("Ease(%v) is %v, behind %v", u, eased, last)
		} else {
			last = eased
		}
	}
}

// Promises 3.1 to 3.4.
func FuzzAll(f *testing.F) {
	f.Add(uint64(0), uint64(1<<63), math.Float64bits(0.5))
	f.Add(math.Float64bits(inf), math.Float64bits(-inf), math.Float64bits(0.25))
	f.Add(math.Float64bits(nan), math.Float64bits(-0x1p-54), math.Float64bits(nan))
	f.Add(math.Float64bits(great), math.Float64bits(-great), math.Float64bits(tiny))
	f.Fuzz(func(t *testing.T, x, y, z uint64) {
		a, b, u := math.Float64frombits(x), math.Float64frombits(y), math.Float64frombits(z)
		holdsOne(t, a)
		holdsTwo(t, a, b, u)
		// A place between the ends, whatever z is.
		holdsTwo(t, a, b, float64(z>>11)/(1<<53))
	})
}
