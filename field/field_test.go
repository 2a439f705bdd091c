package field

import (
	"math"
	"math/big"
	"sync"
	"testing"

	"ceilidh/api"
)

const (
	most  = math.MaxInt32
	least = math.MinInt32
)

// edges are numbers at which something may go wrong: the ends, 0, whole and
// half Sides, what reaches and what is fast, what is beside them, and others.
func edges() []int32 {
	list := []int32{least, least + 1, most, most - 1}
	beside := func(v int32) {
		list = append(list, v-1, v, v+1)
	}
	for _, v := range []int32{0, drag, thrust, api.One, api.Reach, fast, api.Speed, api.Side / 4, half, api.Side, api.Side + half, 127 * api.Side} {
		beside(v)
		beside(-v)
	}
	for bit := 1; bit < 31; bit++ {
		p := int32(1) << bit
		list = append(list, p, -p)
	}
	seed := uint32(1)
	for range 60 {
		seed = seed*1664525 + 1013904223
		list = append(list, int32(seed), int32(seed)>>7, int32(seed)>>13)
	}
	return list
}

// brought is v, brought to from low to less than low and Side, by numbers that
// have no end.
func brought(v *big.Int, low int64) int32 {
	side, from := big.NewInt(256*65536), big.NewInt(low)
	over := new(big.Int).Sub(v, from)
	over.Mod(over, side) // big's Mod is never below 0
	return int32(over.Add(over, from).Int64())
}

// sum is a and b, without an end.
func sum(a, b int32) *big.Int {
	return new(big.Int).Add(big.NewInt(int64(a)), big.NewInt(int64(b)))
}

// wantGap is what promise 5.1 tells of Gap.
func wantGap(a, b int32) int32 {
	way := new(big.Int).Sub(big.NewInt(int64(b)), big.NewInt(int64(a)))
	return brought(way, -128*65536)
}

// wantNear is what promise 5.1 tells of a gap that hits.
func wantNear(gap int32) bool {
	size := new(big.Int).Abs(big.NewInt(int64(gap)))
	return size.Cmp(big.NewInt(12*65536)) < 0
}

// wantPush is what promise 5.2 tells of Push.
func wantPush(v int32, stick int8) int32 {
	speed := big.NewInt(int64(v))
	speed.Sub(speed, new(big.Int).Quo(speed, big.NewInt(16))) // Quo goes towards 0
	speed.Add(speed, new(big.Int).Mul(big.NewInt(256), big.NewInt(int64(stick))))
	top := big.NewInt(8 * 65536)
	bottom := new(big.Int).Neg(top)
	switch {
	case speed.Cmp(top) > 0:
		return 8 * 65536
	case speed.Cmp(bottom) < 0:
		return -8 * 65536
	}
	return int32(speed.Int64())
}

// holdsPair tells where Wrap, Move or Gap isn't what is told of it.
func holdsPair(t *testing.T, a, b int32) {
	t.Helper()
	if got, want := Wrap(a), brought(big.NewInt(int64(a)), 0); got != want {
		t.Errorf("Wrap(%d): %d, not %d", a, got, want)
	}
	if got, want := Move(a, b), brought(sum(a, b), 0); got != want {
		t.Errorf("Move(%d, %d): %d, not %d", a, b, got, want)
	}
	if got, want := Gap(a, b), wantGap(a, b); got != want {
		t.Errorf("Gap(%d, %d): %d, not %d", a, b, got, want)
	}
}

// holdsHits tells where Hits isn't what is told of it.
func holdsHits(t *testing.T, ax, ay, bx, by int32) {
	t.Helper()
	want := wantNear(wantGap(ax, bx)) && wantNear(wantGap(ay, by))
	if got := Hits(ax, ay, bx, by); got != want {
		t.Errorf("Hits(%d, %d, %d, %d): %v, not %v", ax, ay, bx, by, got, want)
	}
}

// holdsPush tells where Push isn't what is told of it.
func holdsPush(t *testing.T, v int32, stick int8) {
	t.Helper()
	if got, want := Push(v, stick), wantPush(v, stick); got != want {
		t.Errorf("Push(%d, %d): %d, not %d", v, stick, got, want)
	}
}

// Promise 5.1: what comes in, and where.
func TestWrap(t *testing.T) {
	for _, c := range []struct{ a, want int32 }{
		{0, 0}, {1, 1}, {-1, api.Side - 1}, {api.Side - 1, api.Side - 1}, {api.Side, 0}, {api.Side + 1, 1},
		{-api.Side, 0}, {-api.Side + 1, 1}, {-api.Side - 1, api.Side - 1}, {half, half}, {-half, half},
		{5 - 3*api.Side, 5}, {127*api.Side + 7, 7}, {-127*api.Side - 7, api.Side - 7},
		{most, api.Side - 1}, {least, 0}, {least + 1, 1},
	} {
		if got := Wrap(c.a); got != c.want {
			t.Errorf("Wrap(%d): %d, not %d", c.a, got, c.want)
		}
	}
}

// Promise 5.1: at each border between two Sides, from end to end.
func TestWrapAtEachBorder(t *testing.T) {
	for k := int64(-128); k <= 128; k++ {
		for off := int64(-3); off <= 3; off++ {
			a := k*api.Side + off
			if a < least || a > most {
				continue
			}
			want := int32(off)
			if off < 0 {
				want += api.Side
			}
			if got := Wrap(int32(a)); got != want {
				t.Fatalf("Wrap(%d): %d, not %d", a, got, want)
			}
		}
	}
}

// Promise 5.1: sums that no int32 holds are exact.
func TestMove(t *testing.T) {
	for _, c := range []struct{ a, v, want int32 }{
		{0, 0, 0}, {5, 7, 12}, {api.Side - 1, 1, 0}, {0, -1, api.Side - 1}, {api.Side - 1, api.Speed, api.Speed - 1},
		{3, -api.Speed, api.Side - api.Speed + 3}, {0, api.Side, 0}, {9, -api.Side, 9}, {half, half, 0}, {-1, 0, api.Side - 1},
		{most, 1, 0}, {1, most, 0}, {most, most, api.Side - 2}, {least, -1, api.Side - 1}, {least, least, 0},
		{least + 1, least + 1, 2}, {most, least, api.Side - 1}, {least, most, api.Side - 1},
	} {
		if got := Move(c.a, c.v); got != c.want {
			t.Errorf("Move(%d, %d): %d, not %d", c.a, c.v, got, c.want)
		}
	}
}

// Promise 5.1: the way is the shorter one, round the edge too; half a Side is
// below 0; differences that no int32 holds are exact.
func TestGap(t *testing.T) {
	for _, c := range []struct{ a, b, want int32 }{
		{0, 0, 0}, {3, 10, 7}, {10, 3, -7}, {1, api.Side - 1, -2}, {api.Side - 1, 1, 2}, {0, api.Side, 0}, {api.Side, 0, 0},
		{0, half - 1, half - 1}, {0, half, -half}, {0, half + 1, -half + 1}, {half, 0, -half}, {half - 1, 0, -half + 1},
		{half + 1, 0, half - 1}, {0, -half, -half}, {0, -half - 1, half - 1}, {0, -half + 1, -half + 1},
		{least, most, -1}, {most, least, 1}, {least, least, 0}, {most, most, 0}, {0, least, 0}, {least, 0, 0}, {0, most, -1}, {most, 0, 1},
		{least, half, -half}, {half, least, -half}, {most, half, -half + 1}, {most, half - 1, -half}, {most, half - 2, half - 1},
	} {
		if got := Gap(c.a, c.b); got != c.want {
			t.Errorf("Gap(%d, %d): %d, not %d", c.a, c.b, got, c.want)
		}
	}
}

// Promise 5.1: any two edges.
func TestPairs(t *testing.T) {
	for _, a := range edges() {
		for _, b := range edges() {
			holdsPair(t, a, b)
		}
	}
}

// Promise 5.1: the way leads where it says, and is never longer than back.
func TestGapLeadsThere(t *testing.T) {
	for _, a := range edges() {
		for _, b := range edges() {
			gap := Gap(a, b)
			if gap < -half || gap >= half {
				t.Fatalf("Gap(%d, %d): %d", a, b, gap)
			}
			if got := Move(a, gap); got != Wrap(b) {
				t.Fatalf("from %d by %d: %d, not %d", a, gap, got, Wrap(b))
			}
			if back := Gap(b, a); back != -gap && gap != -half {
				t.Fatalf("from %d to %d: %d, and back: %d", a, b, gap, back)
			}
		}
	}
}

// Promise 5.1: less than Reach, on both axes, round the edge too.
func TestHits(t *testing.T) {
	const in, out = api.Reach - 1, api.Reach
	for _, c := range []struct {
		ax, ay, bx, by int32
		want           bool
	}{
		{0, 0, 0, 0, true}, {0, 0, in, in, true}, {0, 0, -in, in, true}, {0, 0, in, -in, true}, {0, 0, -in, -in, true},
		{0, 0, out, 0, false}, {0, 0, -out, 0, false}, {0, 0, 0, out, false}, {0, 0, 0, -out, false},
		{0, 0, out, out, false}, {0, 0, out, in, false}, {0, 0, in, out, false}, {0, 0, -out, -out, false},
		{in, in, 0, 0, true}, {out, 0, 0, 0, false}, {0, out, 0, 0, false},
		{api.Side - 1, 0, in - 1, 0, true}, {api.Side - 1, 0, out - 1, 0, false},
		{0, api.Side - 1, 0, in - 1, true}, {0, api.Side - 1, 0, out - 1, false},
		{in - 1, 0, api.Side - 1, 0, true}, {out - 1, 0, api.Side - 1, 0, false},
		{half, half, half + in, half - in, true}, {0, 0, half, 0, false}, {0, 0, 0, half, false}, {0, 0, half, half, false}, {0, 0, -half, -half, false},
		{100, 7 * api.One, 7 * api.One, 100, true}, {0, 100 * api.One, 100 * api.One, 0, false}, // each axis with its own kind
		{least, most, most, least, true}, {least, least, in, -in, true}, {least, least, out, 0, false}, {least, least, 0, out, false},
		{most, most, in - 1, in - 1, true}, {most, most, out - 1, 0, false}, {most, most, 0, out - 1, false},
	} {
		if got := Hits(c.ax, c.ay, c.bx, c.by); got != c.want {
			t.Errorf("Hits(%d, %d, %d, %d): %v", c.ax, c.ay, c.bx, c.by, got)
		}
	}
}

// Promise 5.1: any two edges along one axis, beside a gap on the other that
// hits and one that doesn't; whichever is the shot.
func TestHitsAny(t *testing.T) {
	for _, a := range edges() {
		for _, b := range edges() {
			for _, other := range []int32{0, api.Reach - 1, api.Reach} {
				holdsHits(t, a, 0, b, other)
				holdsHits(t, 0, a, other, b)
				if Hits(a, 0, b, other) != Hits(b, other, a, 0) {
					t.Fatalf("%d, 0 and %d, %d: not alike from both sides", a, b, other)
				}
			}
		}
	}
}

// Promise 5.2: the part that goes is rounded towards 0 on both sides; the sum
// is kept within Speed on both sides.
func TestPush(t *testing.T) {
	const top, slow = api.Speed, api.Speed - api.Speed/16
	for _, c := range []struct {
		v     int32
		stick int8
		want  int32
	}{
		{0, 0, 0}, {0, 1, 256}, {0, -1, -256}, {0, 127, 127 * 256}, {0, -127, -127 * 256}, {0, -128, -128 * 256},
		{160, 0, 150}, {-160, 0, -150}, {15, 0, 15}, {-15, 0, -15}, {16, 0, 15}, {-16, 0, -15}, {17, 0, 16}, {-17, 0, -16},
		{31, 0, 30}, {-31, 0, -30}, {32, 0, 30}, {-32, 0, -30}, {1, 0, 1}, {-1, 0, -1},
		{160, 2, 662}, {-160, 2, 362}, {160, -2, -362}, {-160, -2, -662},
		{top, 0, slow}, {-top, 0, -slow}, {top, 127, slow + 127*256}, {-top, -127, -slow - 127*256},
		{top, -128, slow - 128*256}, {-top, -128, -top}, {-top, 127, -slow + 127*256},
		{top + 16, 127, slow + 15 + 127*256}, {16 * api.One, 0, top}, {-16 * api.One, 0, -top},
		{559240, 0, 524288}, {559241, 0, 524288}, {559239, 0, 524287}, {-559240, 0, -524288}, {-559241, 0, -524288}, {-559239, 0, -524287},
		{524560, 127, 524287}, {524561, 127, 524288}, {524562, 127, 524288}, {-524560, -127, -524287}, {-524561, -127, -524288}, {-524562, -127, -524288},
		{most, 0, top}, {most, 127, top}, {most, -128, top}, {least, 0, -top}, {least, 127, -top}, {least, -128, -top},
	} {
		if got := Push(c.v, c.stick); got != c.want {
			t.Errorf("Push(%d, %d): %d, not %d", c.v, c.stick, got, c.want)
		}
	}
}

// Promise 5.2: any edge, and each stick; and the speeds at which the limit is
// met.
func TestPushAny(t *testing.T) {
	for _, v := range edges() {
		for stick := -128; stick <= 127; stick++ {
			holdsPush(t, v, int8(stick))
		}
	}
	for stick := -128; stick <= 127; stick++ {
		meets := int32((api.Speed - 256*stick) / 15 * 16)
		for off := int32(-20); off <= 20; off++ {
			holdsPush(t, meets+off, int8(stick))
			holdsPush(t, -meets+off, int8(stick))
		}
	}
}

// Promise 5.2: a stick that is held leads to a speed of its own; one that is
// let go, to next to nothing. By another program's numbers.
func TestPushGoesOn(t *testing.T) {
	for _, c := range []struct {
		from  int32
		stick int8
		to    int32
		steps int
	}{
		{0, 1, 4096, 97}, {0, -1, -4096, 97}, {0, 10, 40960, 132}, {0, 16, 65536, 140}, {0, 64, 262144, 161},
		{0, 127, 520192, 172}, {0, -127, -520192, 172}, {0, -128, -524288, 172},
		{api.Speed, 0, 15, 172}, {-api.Speed, 0, -15, 172},
	} {
		v, steps := c.from, 1
		for next := Push(v, c.stick); next != v && steps < 1000; next = Push(v, c.stick) {
			v = next
			steps++
		}
		if v != c.to || steps != c.steps {
			t.Errorf("from %d with %d: %d in %d, not %d in %d", c.from, c.stick, v, steps, c.to, c.steps)
		}
	}
}

// Promise 5.2: only the side of each axis counts; who aims nowhere aims along
// x.
func TestAim(t *testing.T) {
	const six = 6 * api.One
	for _, c := range []struct {
		in   api.Input
		x, y int32
	}{
		{api.Input{}, six, 0}, {api.Input{B: 255}, six, 0}, {api.Input{X: 1}, six, 0}, {api.Input{X: -1}, -six, 0},
		{api.Input{Y: 1}, 0, six}, {api.Input{Y: -1}, 0, -six}, {api.Input{X: 127, Y: 127}, six, six},
		{api.Input{X: -127, Y: 1}, -six, six}, {api.Input{X: 1, Y: -127}, six, -six}, {api.Input{X: -128, Y: -128}, -six, -six},
		{api.Input{X: -128}, -six, 0}, {api.Input{Y: -128}, 0, -six}, {api.Input{X: 3, Y: -128, B: 1}, six, -six},
	} {
		if x, y := Aim(c.in); x != c.x || y != c.y {
			t.Errorf("Aim(%v): %d, %d, not %d, %d", c.in, x, y, c.x, c.y)
		}
	}
}

// Promise 5.2: each stick, and each button: no shot stands still.
func TestAimAny(t *testing.T) {
	sign := func(v int) int32 {
		switch {
		case v > 0:
			return 1
		case v < 0:
			return -1
		}
		return 0
	}
	for x := -128; x <= 127; x++ {
		for y := -128; y <= 127; y++ {
			wantX, wantY := sign(x)*6*65536, sign(y)*6*65536
			if x == 0 && y == 0 {
				wantX = 6 * 65536
			}
			for _, b := range []uint8{0, 1, 2, 128, 255} {
				in := api.Input{X: int8(x), Y: int8(y), B: b}
				if vx, vy := Aim(in); vx != wantX || vy != wantY {
					t.Fatalf("Aim(%v): %d, %d, not %d, %d", in, vx, vy, wantX, wantY)
				}
			}
		}
	}
}

// Promise 5.3: who holds a course meets the edge, comes in at the other side,
// and is where it was when it has gone a whole Side; on the way it is never off
// the field.
func TestShipsGoRound(t *testing.T) {
	for _, v := range []int32{api.One, -api.One, api.Speed, -api.Speed, fast / 6, 1 << 10, -1 << 10} {
		for _, from := range []int32{0, 1, half, api.Side - 1, 12345} {
			frames := api.Side / max(v, -v)
			at, rounds := from, 0
			for range frames {
				next := Move(at, v)
				if next < 0 || next >= api.Side {
					t.Fatalf("from %d by %d: %d is not on the field", at, v, next)
				}
				if Gap(at, next) != v {
					t.Fatalf("from %d to %d: %d, not %d", at, next, Gap(at, next), v)
				}
				if next != at+v {
					rounds++
				}
				at = next
			}
			if at != from || rounds != 1 {
				t.Errorf("from %d by %d: at %d behind %d rounds", from, v, at, rounds)
			}
		}
	}
}

// flight is where a ship is that begins in a corner, and what it saw.
type flight struct {
	x, y, vx, vy int32
	rounds, hits int
	seen         uint64
}

// fly goes a hundred thousand frames, with a stick that chance holds.
func fly() flight {
	f := flight{x: api.Side - 1}
	const aimX, aimY = api.Side / 3, api.Side / 5
	seed := uint32(1)
	var stickX, stickY int8
	for i := range 100_000 {
		seed = seed*1664525 + 1013904223
		if i%97 == 0 {
			stickX, stickY = int8(seed>>8), int8(seed>>20)
		}
		f.vx, f.vy = Push(f.vx, stickX), Push(f.vy, stickY)
		x, y := Move(f.x, f.vx), Move(f.y, f.vy)
		if x != f.x+f.vx {
			f.rounds++
		}
		if y != f.y+f.vy {
			f.rounds++
		}
		f.x, f.y = x, y
		f.seen = f.seen*31 + uint64(x) + 7*uint64(y)
		f.seen = f.seen*31 + uint64(int64(Gap(x, aimX))+3*int64(Gap(y, aimY)))
		if Hits(x, y, aimX, aimY) {
			f.hits++
		}
	}
	return f
}

// Promise 5.3: a long flight, as another program flew it; and the same for
// each that flies it, whoever flies meanwhile.
func TestFlight(t *testing.T) {
	want := flight{4681907, 6378013, 156208, -121379, 2783, 834, 552548254316045306}
	var got [8]flight
	var peers sync.WaitGroup
	for i := range got {
		peers.Go(func() { got[i] = fly() })
	}
	peers.Wait()
	for i, f := range got {
		if f != want {
			t.Errorf("peer %d: %+v, not %+v", i, f, want)
		}
	}
}

// Promises 5.1 to 5.3.
func FuzzAll(f *testing.F) {
	f.Add(int32(most), int32(least), int32(0), int32(-1), int8(127))
	f.Add(int32(0), int32(half), int32(-half), int32(api.Side), int8(-128))
	f.Add(int32(api.Reach), int32(-api.Reach), int32(api.Speed), int32(-api.Speed), int8(0))
	f.Fuzz(func(t *testing.T, ax, ay, bx, by int32, stick int8) {
		holdsPair(t, ax, bx)
		holdsPair(t, ay, by)
		holdsHits(t, ax, ay, bx, by)
		holdsHits(t, ax, ay, ax+bx>>9, ay+by>>9) // so that some hit
		holdsPush(t, ax, stick)
		holdsPush(t, bx>>11, stick)
	})
}
