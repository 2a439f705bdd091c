package stick

import (
	"math"
	"math/big"
	"testing"

	"ceilidh/api"
)

// Promise 1.1: what is no number, and what is beyond the ends.
func TestAxisEdges(t *testing.T) {
	inf := math.Inf(1)
	for _, c := range []struct {
		name string
		f    float64
		want int8
	}{
		{"NaN", math.NaN(), 0},
		{"NaN with its sign set", math.Float64frombits(0xfff8000000000001), 0},
		{"signalling NaN", math.Float64frombits(0x7ff0000000000001), 0},
		{"+0", 0, 0},
		{"-0", math.Copysign(0, -1), 0},
		{"+Inf", inf, 127},
		{"-Inf", -inf, -127},
		{"1", 1, 127},
		{"-1", -1, -127},
		{"above 1", math.Nextafter(1, 2), 127},
		{"below -1", math.Nextafter(-1, -2), -127},
		{"below 1", math.Nextafter(1, 0), 127},
		{"above -1", math.Nextafter(-1, 0), -127},
		{"2, which isn't wrapped round", 2, 127},
		{"-2.5", -2.5, -127},
		{"the greatest", math.MaxFloat64, 127},
		{"the least", -math.MaxFloat64, -127},
		{"the smallest", math.SmallestNonzeroFloat64, 0},
		{"the smallest below 0", -math.SmallestNonzeroFloat64, 0},
		{"an eighth", 0.125, 16},
		{"an eighth below 0", -0.125, -16},
		{"nearer than an eighth", math.Nextafter(0.125, 0), 0},
		{"nearer than an eighth, below 0", math.Nextafter(-0.125, 0), 0},
		{"a tenth", 0.1, 0},
		{"a tenth below 0", -0.1, 0},
	} {
		if got := Axis(c.f); got != c.want {
			t.Errorf("Axis of %s (%v): %d, not %d", c.name, c.f, got, c.want)
		}
	}
}

// Promise 1.1: what lies between is rounded, halves away from 0.
func TestAxisRounds(t *testing.T) {
	for _, c := range []struct {
		f    float64
		want int8
	}{
		{0.25, 32}, {-0.25, -32}, // 31.75
		{0.5, 64}, {-0.5, -64}, // 63.5: a half goes outwards
		{0.75, 95}, {-0.75, -95}, // 95.25
		{math.Nextafter(0.5, 0), 63}, {math.Nextafter(-0.5, 0), -63},
		{0.99, 126}, {-0.99, -126}, // 125.73
		{0.997, 127}, {-0.997, -127}, // 126.619
	} {
		if got := Axis(c.f); got != c.want {
			t.Errorf("Axis(%v): %d, not %d", c.f, got, c.want)
		}
	}
}

// asTold reckons chapter 1's rule for f between an eighth and 1, with each
// operation rounded to 53 bits by itself.
func asTold(f float64) int8 {
	float := func(v float64) *big.Float { return big.NewFloat(v).SetPrec(53) }
	half := float(math.Copysign(0.5, f))
	sum := float(0).Add(float(0).Mul(float(f), float(127)), half)
	n, _ := sum.Int64()
	return int8(n)
}

// Promise 1.1: around each place at which the answer changes, and at steps
// between, the axis is what the rule gives; it never goes back.
func TestAxisSteps(t *testing.T) {
	last := Axis(-1)
	check := func(f float64) {
		want := int8(0)
		if f >= 1 || f <= -1 {
			want = int8(math.Copysign(127, f))
		} else if f >= 0.125 || f <= -0.125 {
			want = asTold(f)
		}
		got := Axis(f)
		if got != want {
			t.Fatalf("Axis(%v): %d, not %d", f, got, want)
		}
		if got < last {
			t.Fatalf("Axis(%v) is %d, behind %d", f, got, last)
		}
		last = got
	}
	for k := -128; k < 128; k++ {
		f := (float64(k) + 0.5) / 127
		for range 8 {
			f = math.Nextafter(f, -2)
		}
		for range 16 {
			check(f)
			f = math.Nextafter(f, 2)
		}
		for i := 1; i < 16; i++ {
			check((float64(k) + 0.5 + float64(i)/16) / 127)
		}
	}
}

// Promise 1.2.
func TestValue(t *testing.T) {
	for a := -128; a < 128; a++ {
		want := float64(max(a, -127)) / 127
		got := Value(int8(a))
		if math.Float64bits(got) != math.Float64bits(want) {
			t.Errorf("Value(%d): %v, not %v", a, got, want)
		}
	}
	if v := Value(0); v != 0 || math.Signbit(v) {
		t.Errorf("Value(0): %v, not +0", v)
	}
	if Value(127) != 1 || Value(-127) != -1 || Value(-128) != -1 {
		t.Error("the ends aren't 1 and -1")
	}
}

// Promise 1.2: what is read lies where its value says, outside the middle.
func TestValueAndAxis(t *testing.T) {
	for a := -127; a <= 127; a++ {
		want := int8(a)
		if v := Value(want); v > -0.125 && v < 0.125 {
			want = 0
		}
		if got := Axis(Value(int8(a))); got != want {
			t.Errorf("Axis(Value(%d)): %d, not %d", a, got, want)
		}
	}
}

// Promise 1.2.
func TestRead(t *testing.T) {
	nan, inf := math.NaN(), math.Inf(1)
	for _, c := range []struct {
		x, y    float64
		buttons uint8
		want    api.Input
	}{
		{0, 0, 0, api.Input{}},
		{0.5, -0.25, 3, api.Input{X: 64, Y: -32, B: 3}},
		{-0.25, 0.5, 0, api.Input{X: -32, Y: 64}},
		{nan, 1, 255, api.Input{Y: 127, B: 255}},
		{1, nan, 128, api.Input{X: 127, B: 128}},
		{inf, -inf, 1, api.Input{X: 127, Y: -127, B: 1}},
		{math.Copysign(0, -1), 0.1, 0, api.Input{}},
	} {
		if got := Read(c.x, c.y, c.buttons); got != c.want {
			t.Errorf("Read(%v, %v, %d): %v, not %v", c.x, c.y, c.buttons, got, c.want)
		}
	}
}

// Promise 1.2: of all inputs only those at -128 are none.
func TestMay(t *testing.T) {
	for x := -128; x < 128; x++ {
		for y := -128; y < 128; y++ {
			want := x != -128 && y != -128
			for _, b := range []uint8{0, 1, 255} {
				in := api.Input{X: int8(x), Y: int8(y), B: b}
				if May(in) != want {
					t.Fatalf("May(%v): %v", in, !want)
				}
			}
		}
	}
}

// Promise 1.2: of any two places of an axis, on either axis.
func TestNearAxes(t *testing.T) {
	for a := -128; a < 128; a++ {
		for b := -128; b < 128; b++ {
			want := a-b <= 8 && b-a <= 8
			p, q := int8(a), int8(b)
			if Near(api.Input{X: p, Y: 5, B: 9}, api.Input{X: q, Y: 5, B: 9}) != want {
				t.Fatalf("X %d and %d: %v", a, b, !want)
			}
			if Near(api.Input{X: -5, Y: p}, api.Input{X: -5, Y: q}) != want {
				t.Fatalf("Y %d and %d: %v", a, b, !want)
			}
		}
	}
}

// Promise 1.2: both axes and all buttons count, each by itself.
func TestNear(t *testing.T) {
	a := api.Input{X: 100, Y: -100, B: 1}
	for _, c := range []struct {
		b    api.Input
		want bool
	}{
		{a, true},
		{api.Input{X: 108, Y: -108, B: 1}, true},
		{api.Input{X: 92, Y: -92, B: 1}, true},
		{api.Input{X: 109, Y: -100, B: 1}, false},
		{api.Input{X: 100, Y: -91, B: 1}, false},
		{api.Input{X: 109, Y: -109, B: 1}, false},
		{api.Input{X: 100, Y: -100, B: 0}, false},
		{api.Input{X: 100, Y: -100, B: 129}, false},
		{api.Input{X: -100, Y: 100, B: 1}, false},
	} {
		if Near(a, c.b) != c.want || Near(c.b, a) != c.want {
			t.Errorf("%v and %v: not %v", a, c.b, c.want)
		}
	}
}

// holds tells whether what is read of x, y and buttons is an input, and the
// same each time.
func holds(t *testing.T, x, y float64, buttons uint8) {
	t.Helper()
	in := Read(x, y, buttons)
	if !May(in) || in.B != buttons || !Near(in, in) {
		t.Fatalf("Read(%v, %v, %d) is no input: %v", x, y, buttons, in)
	}
	if Read(x, y, buttons) != in {
		t.Fatalf("Read(%v, %v, %d) differs from time to time", x, y, buttons)
	}
}

// Promise 1.3: each exponent, both signs, the ends of the fractions and
// fractions between: normal, subnormal, infinite and no number.
func TestWhateverIsHandedOver(t *testing.T) {
	fractions := []uint64{0, 1, 1 << 51, 1<<51 + 1, 1<<52 - 1}
	for i := range uint64(11) {
		fractions = append(fractions, (i+1)*0x9e3779b97f4a7c15>>12)
	}
	for e := range uint64(2048) {
		for i, m := range fractions {
			f := math.Float64frombits(e<<52 | m)
			holds(t, f, -f, uint8(i*17))
			holds(t, -f, f, uint8(e))
		}
	}
}

// Promise 1.3.
func FuzzRead(f *testing.F) {
	f.Add(uint64(0), uint64(1<<63), uint8(0))
	f.Add(math.Float64bits(0.125), math.Float64bits(math.NaN()), uint8(255))
	f.Add(math.Float64bits(math.Inf(1)), math.Float64bits(math.Inf(-1)), uint8(1))
	f.Fuzz(func(t *testing.T, x, y uint64, buttons uint8) {
		holds(t, math.Float64frombits(x), math.Float64frombits(y), buttons)
	})
}
