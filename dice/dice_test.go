package dice

import (
	"hash/fnv"
	"math"
	"math/big"
	"strconv"
	"strings"
	"sync"
	"testing"

	"ceilidh/api"
)

// edges are dice at which something may go wrong: the ends, powers of two and
// what is beside them, what throws nothing but noughts or ones, and others.
func edges() []uint64 {
	list := []uint64{
		0, math.MaxUint64, times, more, start, prime, 0xdeadbeefcafef00d,
		0x9995b5b621535015, // the next is 0
		0xd8fdc62eeeb52770, // the next is the greatest
		0x0b9beed3eeb52770, // the next has noughts above and ones below
		0x66f78d1121535015, // the next has ones above and noughts below
	}
	for bit := range 64 {
		p := uint64(1) << bit
		list = append(list, p-1, p, p+1, -p)
	}
	d := uint64(1)
	for range 60 {
		d ^= d << 13
		d ^= d >> 7
		d ^= d << 17
		list = append(list, d)
	}
	return list
}

// sizes are what is to be picked from: with the ends of what may be.
func sizes() []int {
	return []int{
		1, 2, 3, 4, 5, 6, 7, 8, 9, 10, 100, 255, 256, 1000, 65535, 65536, 65537, api.Side - 1, api.Side, api.Side + 1,
		1_000_000_007, 1 << 30, 1<<30 + 1, math.MaxInt32 - 1, math.MaxInt32,
	}
}

// noSizes are what nothing is picked from.
func noSizes() []int {
	list := []int{0, -1, -2, -6, -65536, -api.Side, math.MinInt32 + 1, math.MinInt32, math.MinInt}
	if strconv.IntSize == 64 {
		beyond := math.MaxInt32
		beyond++ // reckoned: as a constant it would not build where an int has 32 bits
		list = append(list, beyond, beyond+1, 2*beyond-1, 2*beyond, 2*beyond+1, math.MinInt32-beyond, math.MaxInt-1, math.MaxInt)
	}
	return list
}

// whole is u as a number that never goes round.
func whole(u uint64) *big.Int {
	return new(big.Int).SetUint64(u)
}

// round is what 64 bits hold of v.
func round(v *big.Int) uint64 {
	return new(big.Int).Mod(v, new(big.Int).Lsh(big.NewInt(1), 64)).Uint64()
}

// wantNext is what promise 4.1 tells of Next, by numbers that never go round.
func wantNext(d uint64) uint64 {
	v := new(big.Int).Mul(whole(d), whole(6364136223846793005))
	return round(v.Add(v, whole(1442695040888963407)))
}

// wantPick is what promise 4.1 tells of Pick.
func wantPick(d uint64, n int) (int, uint64) {
	if n < 1 || n > 2147483647 {
		return 0, d
	}
	e := wantNext(d)
	v := new(big.Int).Rsh(whole(e), 32)
	v.Mul(v, big.NewInt(int64(n)))
	return int(v.Rsh(v, 32).Int64()), e
}

// wantSeed is what promise 4.2 tells.
func wantSeed(s string) uint64 {
	d := uint64(14695981039346656037)
	for i := range len(s) {
		d = round(new(big.Int).Mul(whole(d^uint64(s[i])), whole(1099511628211)))
	}
	return d
}

// holdsDie tells where Next or Place isn't what is told of it.
func holdsDie(t *testing.T, d uint64) {
	t.Helper()
	if got, want := Next(d), wantNext(d); got != want {
		t.Errorf("Next(%#x): %#x, not %#x", d, got, want)
	}
	wantX, e := wantPick(d, 256*65536)
	wantY, e := wantPick(e, 256*65536)
	x, y, f := Place(d)
	if int(x) != wantX || int(y) != wantY || f != e {
		t.Errorf("Place(%#x): %d, %d, %#x, not %d, %d, %#x", d, x, y, f, wantX, wantY, e)
	}
	if x < 0 || x >= api.Side || y < 0 || y >= api.Side {
		t.Errorf("Place(%#x): %d, %d is not on the field", d, x, y)
	}
}

// holdsPick tells where Pick isn't what is told of it.
func holdsPick(t *testing.T, d uint64, n int) {
	t.Helper()
	want, e := wantPick(d, n)
	if got, f := Pick(d, n); got != want || f != e {
		t.Errorf("Pick(%#x, %d): %d, %#x, not %d, %#x", d, n, got, f, want, e)
	}
}

// Promise 4.1: numbers that another program reckoned.
func TestNamed(t *testing.T) {
	for _, c := range []struct {
		d, next       uint64
		of6, of100    int
		ofSide, ofTop int
		x, y          int32
		behind        uint64
	}{
		{0, 0x14057b7ef767814f, 0, 7, 1312123, 167951806, 1312123, 1706222, 0x1a08ee1184ba6d32},
		{1, 0x6c576fac43fd007c, 2, 42, 7100271, 908834773, 7100271, 8546438, 0x826886b3864a1b1b},
		{2, 0xc4a963d990927fa9, 4, 76, 12888419, 1649717739, 12888419, 15386655, 0xeac81f5587d9c904},
		{9, 0x2ee71116a8a8f9e4, 1, 18, 3073809, 393447562, 3073809, 12936523, 0xc5654bc392c78a63},
		{math.MaxUint64, 0xbbb38751aad20222, 4, 73, 12301191, 1574552487, 12301191, 11643221, 0xb1a9556f832abf49},
		{1 << 63, 0x94057b7ef767814f, 3, 57, 9700731, 1241693630, 9700731, 10094830, 0x9a08ee1184ba6d32},
		{1<<63 - 1, 0x3bb38751aad20222, 1, 23, 3912583, 500810664, 3912583, 3254613, 0x31a9556f832abf49},
		{1 << 32, 0x609afaabf767814f, 2, 37, 6331130, 810384725, 6331130, 1808539, 0x1b989bfa84ba6d32},
		{1<<32 - 1, 0x0849067eaad20222, 0, 3, 542982, 69501758, 542982, 11745539, 0xb3390358832abf49},
	} {
		if got := Next(c.d); got != c.next {
			t.Errorf("Next(%#x): %#x, not %#x", c.d, got, c.next)
		}
		for _, p := range []struct{ n, want int }{
			{1, 0}, {6, c.of6}, {100, c.of100}, {api.Side, c.ofSide}, {math.MaxInt32, c.ofTop},
		} {
			if got, e := Pick(c.d, p.n); got != p.want || e != c.next {
				t.Errorf("Pick(%#x, %d): %d, %#x, not %d, %#x", c.d, p.n, got, e, p.want, c.next)
			}
		}
		if x, y, e := Place(c.d); x != c.x || y != c.y || e != c.behind {
			t.Errorf("Place(%#x): %d, %d, %#x, not %d, %d, %#x", c.d, x, y, e, c.x, c.y, c.behind)
		}
	}
}

// Promise 4.1: a throw of nothing but noughts, or of nothing but ones, and
// those at the border between the bits that count and those that don't.
func TestPickEnds(t *testing.T) {
	for _, c := range []struct {
		name    string
		d, next uint64
		of      func(n int) int
	}{
		{"noughts", 0x9995b5b621535015, 0, func(n int) int { return 0 }},
		{"a one", 0x5a2da53d53f178ba, 1, func(n int) int { return 0 }},
		{"ones", 0xd8fdc62eeeb52770, math.MaxUint64, func(n int) int { return n - 1 }},
		{"ones below", 0x0b9beed3eeb52770, 1<<32 - 1, func(n int) int { return 0 }},
		{"a one above", 0xcc33de5b21535015, 1 << 32, func(n int) int { return 0 }},
		{"ones above", 0x66f78d1121535015, math.MaxUint32 << 32, func(n int) int { return n - 1 }},
		{"half", 0x1995b5b621535015, 1 << 63, func(n int) int { return n / 2 }},
		{"just below half", 0x58fdc62eeeb52770, 1<<63 - 1, func(n int) int { return (n - 1) / 2 }},
	} {
		for _, n := range sizes() {
			if got, e := Pick(c.d, n); got != c.of(n) || e != c.next {
				t.Errorf("Pick of %s, %d: %d, %#x, not %d, %#x", c.name, n, got, e, c.of(n), c.next)
			}
		}
	}
}

// Promise 4.1: n below 1 or above 2^31 - 1 picks nothing and throws nothing.
func TestPickOfNoSize(t *testing.T) {
	for _, d := range edges() {
		for _, n := range noSizes() {
			if got, e := Pick(d, n); got != 0 || e != d {
				t.Errorf("Pick(%#x, %d): %d, %#x, not 0 and what was handed in", d, n, got, e)
			}
		}
	}
}

// Promise 4.1: any edge, and any size.
func TestWhateverIsHandedOver(t *testing.T) {
	for _, d := range edges() {
		holdsDie(t, d)
		for _, n := range sizes() {
			holdsPick(t, d, n)
		}
	}
}

// Promise 4.1: each number below n comes, none else, and about as often as
// any other.
func TestPickIsFair(t *testing.T) {
	for _, n := range []int{1, 2, 6, 8, 100} {
		count := make([]int, n)
		d := uint64(0)
		for range 1000 * n {
			var k int
			k, d = Pick(d, n)
			if k < 0 || k >= n {
				t.Fatalf("of %d: %d", n, k)
			}
			count[k]++
		}
		for k, c := range count {
			if c < 850 || c > 1150 {
				t.Errorf("of %d: %d comes %d times among %d", n, k, c, 1000*n)
			}
		}
	}
}

// Promise 4.1: long ways of throws, as another program went them.
func TestLongWays(t *testing.T) {
	d := uint64(0)
	for range 1_000_000 {
		d = Next(d)
	}
	if d != 0x82f6e3747082ab40 {
		t.Errorf("a million throws: %#x", d)
	}
	d = 1
	sum := int64(0)
	for n := 1; n <= 100_000; n++ {
		var k int
		k, d = Pick(d, n)
		sum += int64(k)
	}
	if sum != 2499612118 || d != 0x6cfc9548ff6cbfa1 {
		t.Errorf("picks from 1 to 100,000: %d, %#x", sum, d)
	}
	d = Seed("ceilidh")
	sumX, sumY := int64(0), int64(0)
	for range 100_000 {
		var x, y int32
		x, y, d = Place(d)
		sumX, sumY = sumX+int64(x), sumY+int64(y)
	}
	if sumX != 839124552815 || sumY != 840598861746 || d != 0xa7071b6b5c716d87 {
		t.Errorf("100,000 places: %d, %d, %#x", sumX, sumY, d)
	}
}

// Promise 4.2: by numbers that another program reckoned, with strings that
// are no runes, or in which 0 stands.
func TestSeed(t *testing.T) {
	var all []byte
	for b := range 256 {
		all = append(all, byte(b))
	}
	for _, c := range []struct {
		s    string
		want uint64
	}{
		{"", 14695981039346656037},
		{"\x00", 0xaf63bd4c8601b7df},
		{"\x00\x00", 0x8328807b4eb6fed},
		{"a", 0xaf63dc4c8601ec8c},
		{"b", 0xaf63df4c8601f1a5},
		{"ab", 0x89c4407b545986a},
		{"ba", 0x8a63307b54dd00c},
		{"foobar", 0x85944171f73967e8},
		{"ceilidh", 0x19e14314ecbc9047},
		{"\xff", 0xaf64724c8602eb6e},
		{"\xff\xfe", 0xa99c807b6f645b0},
		{"\u00e9", 0xac21707b7181e01},
		{"\u65e5\u672c", 0x121d7e35a6d3ce91},
		{"\xc3", 0xaf647e4c8602ffd2}, // a rune's first half
		{string(all), 0x4242dc5249c33625},
		{strings.Repeat("x", 100_000), 0xfd931f27c2d26fa5},
	} {
		if got := Seed(c.s); got != c.want {
			t.Errorf("Seed(%.20q): %#x, not %#x", c.s, got, c.want)
		}
	}
}

// holdsSeed tells where Seed isn't what is told of it, nor what the library
// has of this kind.
func holdsSeed(t *testing.T, s string) {
	t.Helper()
	sum := fnv.New64a()
	sum.Write([]byte(s))
	if got, want := Seed(s), wantSeed(s); got != want || got != sum.Sum64() {
		t.Errorf("Seed(%q): %#x, not %#x", s, got, want)
	}
}

// Promise 4.2: each string of one byte and of two.
func TestSeedOfFewBytes(t *testing.T) {
	for a := range 256 {
		holdsSeed(t, string([]byte{byte(a)}))
		for b := range 256 {
			holdsSeed(t, string([]byte{byte(a), byte(b)}))
		}
	}
}

// way is what a peer sees that throws from a name on, with all that there is.
func way(name string, throws int) []uint64 {
	d := Seed(name)
	seen := []uint64{d}
	for i := range throws {
		var n int
		var x, y int32
		d = Next(d)
		n, d = Pick(d, i)
		x, y, d = Place(d)
		seen = append(seen, uint64(n), uint64(x), uint64(y), d)
	}
	return seen
}

// Promise 4.3: who throws from the same number sees the same, whatever others
// throw meanwhile, and however often it is asked.
func TestSameForAll(t *testing.T) {
	want := [2][]uint64{way("one", 500), way("two", 500)}
	var got [16][]uint64
	var peers sync.WaitGroup
	for i := range got {
		peers.Go(func() { got[i] = way([2]string{"one", "two"}[i%2], 500) })
	}
	peers.Wait()
	for i, seen := range got {
		for k, v := range seen {
			if v != want[i%2][k] {
				t.Fatalf("peer %d sees %d at %d, not %d", i, v, k, want[i%2][k])
			}
		}
	}
	if want[0][0] == want[1][0] {
		t.Error("two names, and one seed")
	}
}

// Promise 4.3: nothing is kept of a throw: going back to a number is going
// the same way again.
func TestBackAndAgain(t *testing.T) {
	for _, d := range edges() {
		first := Next(d)
		Pick(first, 6)
		Place(first)
		Seed("between")
		if again := Next(d); again != first {
			t.Errorf("Next(%#x): first %#x, then %#x", d, first, again)
		}
		n, e := Pick(d, 100)
		x, y, f := Place(d)
		if m, g := Pick(d, 100); m != n || g != e {
			t.Errorf("Pick(%#x, 100): first %d, %#x, then %d, %#x", d, n, e, m, g)
		}
		if v, w, g := Place(d); v != x || w != y || g != f {
			t.Errorf("Place(%#x): first %d, %d, %#x, then %d, %d, %#x", d, x, y, f, v, w, g)
		}
	}
}

func FuzzAll(f *testing.F) {
	f.Add(uint64(0), 1, "")
	f.Add(uint64(math.MaxUint64), math.MaxInt32, "foobar")
	f.Add(uint64(9), -1, "\xff\x00")
	f.Fuzz(func(t *testing.T, d uint64, n int, s string) {
		holdsDie(t, d)
		holdsPick(t, d, n)
		holdsSeed(t, s)
	})
}
