package game

import (
	"fmt"
	"math"
	"math/rand/v2"
	"slices"
	"strings"
	"sync"
	"testing"

	"ceilidh/api"
)

const (
	one  = 65536
	side = 256 * one
)

type (
	inputs = [api.Slots]api.Input
	chance = *rand.Rand
)

// What the document tells of a frame, with numbers that have room, and by
// nothing of the program's own.

func wantRound(v int64) int32 {
	return int32((v%side + side) % side)
}

func wantThrow(d uint64) (int32, uint64) {
	d = d*6364136223846793005 + 1442695040888963407
	return int32((d >> 32) * side >> 32), d
}

func wantPlace(d uint64) (x, y int32, behind uint64) {
	x, d = wantThrow(d)
	y, d = wantThrow(d)
	return x, y, d
}

func wantSeed(s string) uint64 {
	d := uint64(14695981039346656037)
	for i := range len(s) {
		d = (d ^ uint64(s[i])) * 1099511628211
	}
	return d
}

func wantPush(v int32, stick int8) int32 {
	next := int64(v) - int64(v)/16 + 256*int64(stick)
	return int32(min(max(next, -8*one), 8*one))
}

func wantNear(a, b int32) bool {
	gap := (int64(b)-int64(a)+3*side/2)%side - side/2
	return -12*one < gap && gap < 12*one
}

func wantAim(in api.Input) (int32, int32) {
	sign := func(a int8) int32 {
		switch {
		case a > 0:
			return 6 * one
		case a < 0:
			return -6 * one
		}
		return 0
	}
	x, y := sign(in.X), sign(in.Y)
	if x == 0 && y == 0 {
		x = 6 * one
	}
	return x, y
}

// wantMay is what promise 6.1 tells of May.
func wantMay(g api.Game) bool {
	ok := g.Frame >= 0 && g.Frame <= 1048576 && len(g.Shots) <= 32
	place := func(x, y int32) bool { return x >= 0 && x < side && y >= 0 && y < side }
	speed := func(v int32, top int64) bool { return int64(v) >= -top && int64(v) <= top }
	for _, s := range g.Ships {
		if s.On {
			ok = ok && place(s.X, s.Y) && speed(s.VX, 8*one) && speed(s.VY, 8*one)
			ok = ok && s.Cool >= 0 && s.Cool <= 10 && s.Score >= 0 && s.Score <= 1073741824
		} else {
			ok = ok && s.X == 0 && s.Y == 0 && s.VX == 0 && s.VY == 0 && s.Cool == 0 && s.Score == 0
		}
	}
	for _, s := range g.Shots {
		ok = ok && s.Owner >= 0 && s.Owner <= 7 && place(s.X, s.Y)
		ok = ok && speed(s.VX, 6*one) && speed(s.VY, 6*one) && s.Left >= 1 && s.Left <= 24
	}
	return ok
}

// wantSame is what promise 6.3 tells of Same: a text of a game has all of it.
func wantSame(a, b api.Game) bool {
	a.Shots, b.Shots = append([]api.Shot{}, a.Shots...), append([]api.Shot{}, b.Shots...)
	return fmt.Sprintf("%#v", a) == fmt.Sprintf("%#v", b)
}

// wantStep is what promise 6.2 tells of Step.
func wantStep(g api.Game, in inputs) (api.Game, int) {
	g.Shots = slices.Clone(g.Shots)
	if !wantMay(g) {
		return g, 1
	}
	if g.Frame == 1048576 {
		return g, 7
	}
	for k := range 8 {
		s, does := g.Ships[k], in[k]
		if !s.On {
			continue
		}
		if does.X == -128 {
			does.X = -127
		}
		if does.Y == -128 {
			does.Y = -127
		}
		s.VX, s.VY = wantPush(s.VX, does.X), wantPush(s.VY, does.Y)
		s.X, s.Y = wantRound(int64(s.X)+int64(s.VX)), wantRound(int64(s.Y)+int64(s.VY))
		if s.Cool > 0 {
			s.Cool--
		} else if does.B%2 == 1 && len(g.Shots) < 32 {
			vx, vy := wantAim(does)
			g.Shots = append(g.Shots, api.Shot{Owner: k, X: s.X, Y: s.Y, VX: vx, VY: vy, Left: 24})
			s.Cool = 10
		}
		g.Ships[k] = s
	}
	for i := 0; i < len(g.Shots); {
		s := &g.Shots[i]
		s.X, s.Y = wantRound(int64(s.X)+int64(s.VX)), wantRound(int64(s.Y)+int64(s.VY))
		s.Left--
		if s.Left > 0 && !wantHit(&g, *s) {
			i++
			continue
		}
		g.Shots = append(g.Shots[:i], g.Shots[i+1:]...)
	}
	g.Frame++
	return g, 0
}

// wantHit tells whether a shot hits, and does what is told of that.
func wantHit(g *api.Game, s api.Shot) bool {
	for k := range 8 {
		ship := &g.Ships[k]
		if !ship.On || k == s.Owner || !wantNear(s.X, ship.X) || !wantNear(s.Y, ship.Y) {
			continue
		}
		ship.X, ship.Y, g.Dice = wantPlace(g.Dice)
		ship.VX, ship.VY, ship.Cool = 0, 0, 0
		if g.Ships[s.Owner].On && g.Ships[s.Owner].Score < 1073741824 {
			g.Ships[s.Owner].Score++
		}
		return true
	}
	return false
}

// wantSpawn is what promise 6.3 tells of Spawn.
func wantSpawn(g api.Game, slot int) (api.Game, int) {
	g.Shots = slices.Clone(g.Shots)
	if !wantMay(g) || slot < 0 || slot > 7 || g.Ships[slot].On {
		return g, 1
	}
	x, y, d := wantPlace(g.Dice)
	g.Ships[slot], g.Dice = api.Ship{On: true, X: x, Y: y}, d
	return g, 0
}

// wantRemove is what promise 6.3 tells of Remove.
func wantRemove(g api.Game, slot int) (api.Game, int) {
	shots := g.Shots
	g.Shots = slices.Clone(shots)
	if !wantMay(g) || slot < 0 || slot > 7 || !g.Ships[slot].On {
		return g, 1
	}
	g.Ships[slot], g.Shots = api.Ship{}, nil
	for _, s := range shots {
		if s.Owner != slot {
			g.Shots = append(g.Shots, s)
		}
	}
	return g, 0
}

// asked is what was answered of a game, and what should have been.
type asked struct {
	name      string
	got, want api.Game
	code, ok  int
}

// askAll hands g over to all that changes a game, and to May.
func askAll(t *testing.T, g api.Game, in inputs) []asked {
	t.Helper()
	if got, want := May(g), wantMay(g); got != want {
		t.Errorf("May(%+v): %v", g, got)
	}
	var list []asked
	add := func(name string, got api.Game, code int, want api.Game, ok int) {
		list = append(list, asked{name, got, want, code, ok})
	}
	got, code := Step(g, in)
	want, ok := wantStep(g, in)
	add("Step", got, code, want, ok)
	for _, slot := range []int{-1, 0, 1, 2, 3, 4, 5, 6, 7, 8, math.MinInt, math.MaxInt} {
		got, code = Spawn(g, slot)
		want, ok = wantSpawn(g, slot)
		add(fmt.Sprint("Spawn of ", slot), got, code, want, ok)
		got, code = Remove(g, slot)
		want, ok = wantRemove(g, slot)
		add(fmt.Sprint("Remove of ", slot), got, code, want, ok)
	}
	return list
}

// holds tells where what is made of g isn't what is told of it, or where g was
// changed, or is shared.
func holds(t *testing.T, g api.Game, in inputs) {
	t.Helper()
	// What was handed in has room behind it, in which nobody may write.
	room := append(slices.Clone(g.Shots), make([]api.Shot, api.MaxShots+2)...)
	g.Shots = room[:len(g.Shots)]
	before := slices.Clone(room)
	for _, a := range askAll(t, g, in) {
		if a.code != a.ok || !wantSame(a.got, a.want) {
			t.Errorf("%s of %+v with %v:\n%+v, %d, not\n%+v, %d", a.name, g, in, a.got, a.code, a.want, a.ok)
		}
		if may := wantMay(g); May(a.got) != may {
			t.Errorf("%s of %+v with %v: May is not %v", a.name, g, in, may)
		}
		whole := a.got.Shots[:cap(a.got.Shots)]
		for i := range whole {
			whole[i].Owner = -9 // the answer is the caller's own
		}
		if !slices.Equal(room, before) {
			t.Fatalf("%s writes in what was handed in, or shares it", a.name)
		}
	}
}

// duel is a game with ships in slots 0 and 1, at rest, at these places.
func duel(x0, y0, x1, y1 int32) api.Game {
	g := New("duel")
	g.Ships[0] = api.Ship{On: true, X: x0, Y: y0}
	g.Ships[1] = api.Ship{On: true, X: x1, Y: y1}
	return g
}

// step is Step, which has to answer OK, with what is told of it.
func step(t *testing.T, g api.Game, in inputs) api.Game {
	t.Helper()
	holds(t, g, in)
	n, code := Step(g, in)
	if code != api.OK {
		t.Fatalf("Step of %+v: %d", g, code)
	}
	return n
}

// Promise 6.1: nothing but the seed.
func TestNew(t *testing.T) {
	for _, seed := range []string{"", "s", "a game", "\x00", "\xff\xfe", strings.Repeat("x", 10_000)} {
		g := New(seed)
		if !wantSame(g, api.Game{Dice: wantSeed(seed)}) || !May(g) {
			t.Errorf("New(%.20q): %+v", seed, g)
		}
	}
	if New("").Dice != 0xcbf29ce484222325 || New("a").Dice != 0xaf63dc4c8601ec8c {
		t.Error("not the seeds that all make alike")
	}
}

// full is a game with nothing missing: all ships, and as many shots as may be,
// all that there is at its greatest.
func full() api.Game {
	g := New("full")
	g.Frame = api.MaxFrame
	g.Dice = math.MaxUint64
	for i := range g.Ships {
		g.Ships[i] = api.Ship{On: true, X: side - 1, Y: side - 1, VX: 8 * one, VY: 8 * one, Cool: 10, Score: 1 << 30}
	}
	for i := range 32 {
		g.Shots = append(g.Shots, api.Shot{Owner: i % 8, X: side - 1, Y: side - 1, VX: 6 * one, VY: 6 * one, Left: 24})
	}
	return g
}

// Promise 6.1: how many frames and shots there may be.
func TestMayOfCounts(t *testing.T) {
	g := full()
	if !May(g) {
		t.Fatal("a full game may be")
	}
	for frame, want := range map[int]bool{0: true, 1: true, 1 << 20: true, 1<<20 - 1: true, -1: false, 1<<20 + 1: false, math.MaxInt: false, math.MinInt: false} {
		g := full()
		if g.Frame = frame; May(g) != want {
			t.Errorf("Frame %d: %v", frame, !want)
		}
	}
	for n, want := range map[int]bool{0: true, 1: true, 31: true, 32: true, 33: false, 34: false, 1000: false, 1_000_000: false} {
		g := New("many")
		for range n {
			g.Shots = append(g.Shots, api.Shot{Left: 1})
		}
		if May(g) != want {
			t.Errorf("%d shots: %v", n, !want)
		}
	}
	none := New("none")
	if none.Shots = []api.Shot{}; !May(none) {
		t.Error("an empty list is none")
	}
	if !May(api.Game{}) {
		t.Error("Dice may be anything")
	}
}

// limits is what a part of a ship or a shot may be: from lo to hi.
type limits[T any] struct {
	name   string
	lo, hi int
	set    func(part *T, v int)
}

// values are those at and beside the limits, with whether they may be.
func (l limits[T]) values() map[int]bool {
	between := l.lo + (l.hi-l.lo)/2
	return map[int]bool{
		l.lo: true, l.hi: true, between: true,
		l.lo - 1: false, l.hi + 1: false, math.MinInt32: false, math.MaxInt32: false,
	}
}

// Promise 6.1: each part of a ship that is On, in each slot.
func TestMayOfShips(t *testing.T) {
	for _, part := range []limits[api.Ship]{
		{"X", 0, side - 1, func(s *api.Ship, v int) { s.X = int32(v) }},
		{"Y", 0, side - 1, func(s *api.Ship, v int) { s.Y = int32(v) }},
		{"VX", -8 * one, 8 * one, func(s *api.Ship, v int) { s.VX = int32(v) }},
		{"VY", -8 * one, 8 * one, func(s *api.Ship, v int) { s.VY = int32(v) }},
		{"Cool", 0, 10, func(s *api.Ship, v int) { s.Cool = v }},
		{"Score", 0, 1 << 30, func(s *api.Ship, v int) { s.Score = v }},
	} {
		for v, want := range part.values() {
			for slot := range api.Slots {
				g := New("ships")
				g.Ships[slot].On = true
				if part.set(&g.Ships[slot], v); May(g) != want {
					t.Errorf("alone, slot %d, %s %d: %v", slot, part.name, v, !want)
				}
				g = full()
				if part.set(&g.Ships[slot], v); May(g) != want {
					t.Errorf("slot %d, %s %d: %v", slot, part.name, v, !want)
				}
				g.Ships[slot].On = false
				if May(g) {
					t.Errorf("slot %d, %s %d: a ship that isn't On has something", slot, part.name, v)
				}
			}
		}
	}
}

// Promise 6.1: of a ship that is not On all else is 0, each by itself.
func TestMayOfNoShips(t *testing.T) {
	for slot := range api.Slots {
		for i, ship := range []api.Ship{
			{}, {X: 1}, {Y: 1}, {VX: 1}, {VY: 1}, {Cool: 1}, {Score: 1},
			{X: -1}, {Y: -1}, {VX: -1}, {VY: -1}, {Cool: -1}, {Score: -1},
		} {
			g := full()
			if g.Ships[slot] = ship; May(g) != (i == 0) {
				t.Errorf("slot %d, %+v: %v", slot, ship, i != 0)
			}
		}
	}
}

// Promise 6.1: each part of a shot, wherever it stands among the others.
func TestMayOfShots(t *testing.T) {
	for _, part := range []limits[api.Shot]{
		{"Owner", 0, 7, func(s *api.Shot, v int) { s.Owner = v }},
		{"X", 0, side - 1, func(s *api.Shot, v int) { s.X = int32(v) }},
		{"Y", 0, side - 1, func(s *api.Shot, v int) { s.Y = int32(v) }},
		{"VX", -6 * one, 6 * one, func(s *api.Shot, v int) { s.VX = int32(v) }},
		{"VY", -6 * one, 6 * one, func(s *api.Shot, v int) { s.VY = int32(v) }},
		{"Left", 1, 24, func(s *api.Shot, v int) { s.Left = v }},
	} {
		for v, want := range part.values() {
			for i := range api.MaxShots {
				g := full()
				g.Ships[i%8] = api.Ship{} // an Owner need not be there
				if part.set(&g.Shots[i], v); May(g) != want {
					t.Errorf("shot %d, %s %d: %v", i, part.name, v, !want)
				}
			}
		}
	}
}

// wrong are games that may not be.
func wrong() []api.Game {
	var list []api.Game
	for _, spoil := range []func(g *api.Game){
		func(g *api.Game) { g.Frame = -1 },
		func(g *api.Game) { g.Frame = api.MaxFrame + 1 },
		func(g *api.Game) { g.Frame, g.Ships[0].VX = api.MaxFrame, math.MinInt32 },
		func(g *api.Game) { g.Ships[7].X = -1 },
		func(g *api.Game) { g.Ships[2].Score = math.MaxInt },
		func(g *api.Game) { g.Ships[1].On = false },
		func(g *api.Game) { g.Shots[3].Owner = 8 },
		func(g *api.Game) { g.Shots[3].Owner = math.MinInt },
		func(g *api.Game) { g.Shots[31].Left = 0 },
		func(g *api.Game) { g.Shots = append(g.Shots, g.Shots[0]) },
		func(g *api.Game) { g.Shots = make([]api.Shot, 5000) },
	} {
		g := full()
		g.Frame = 5
		spoil(&g)
		list = append(list, g)
	}
	return list
}

// Promises 6.2, 6.3: of what may not be, ErrArg beside it as it is; so also if
// its Frame is the last one.
func TestWrongGames(t *testing.T) {
	for i, g := range wrong() {
		for _, a := range askAll(t, g, inputs{}) {
			if a.code != api.ErrArg || !wantSame(a.got, g) {
				t.Errorf("%s of wrong game %d: %d, %+v", a.name, i, a.code, a.got)
			}
		}
		holds(t, g, inputs{0: {X: 9, B: 1}})
	}
}

// Promise 6.2: there is a frame ahead of the last one, and none behind it.
func TestLastFrame(t *testing.T) {
	g := full()
	for _, in := range []inputs{{}, {0: {X: 127, Y: -128, B: 255}}} {
		if n, code := Step(g, in); code != api.ErrEnd || !wantSame(n, g) {
			t.Errorf("at the last frame: %d, %+v", code, n)
		}
		holds(t, g, in)
		g.Frame--
		if n := step(t, g, in); n.Frame != api.MaxFrame {
			t.Errorf("ahead of the last frame: %d", n.Frame)
		}
		g.Frame++
	}
}

// Promise 6.2: on nothing nothing happens, whatever the slots do.
func TestNothingOnTheField(t *testing.T) {
	g := New("nothing")
	var in inputs
	for i := range in {
		in[i] = api.Input{X: 127, Y: -128, B: 255}
	}
	for frame := range 50 {
		n := step(t, g, in)
		g.Frame++
		if n.Frame != frame+1 || !Same(n, g) {
			t.Fatalf("frame %d: %+v", frame, n)
		}
	}
}

// Promise 6.2: a stick pushes its own slot's ship, along its own axis; one of
// -128 as -127; a ship that goes off comes in at the other side.
func TestShipsFly(t *testing.T) {
	for _, c := range []struct {
		ship  api.Ship
		stick api.Input
		want  api.Ship
	}{
		{api.Ship{}, api.Input{}, api.Ship{}},
		{api.Ship{X: 9}, api.Input{X: 1}, api.Ship{X: 9 + 256, VX: 256}},
		{api.Ship{Y: 9}, api.Input{Y: 1}, api.Ship{Y: 9 + 256, VY: 256}},
		{api.Ship{}, api.Input{X: -1}, api.Ship{X: side - 256, VX: -256}},
		{api.Ship{}, api.Input{Y: -1}, api.Ship{Y: side - 256, VY: -256}},
		{api.Ship{X: side - 1, Y: side - 1}, api.Input{X: 127, Y: 2}, api.Ship{X: 127*256 - 1, Y: 511, VX: 127 * 256, VY: 512}},
		{api.Ship{X: one * 9}, api.Input{X: -127}, api.Ship{X: one*9 - 127*256, VX: -127 * 256}},
		{api.Ship{X: one * 9}, api.Input{X: -128}, api.Ship{X: one*9 - 127*256, VX: -127 * 256}},
		{api.Ship{Y: one * 9}, api.Input{Y: -128}, api.Ship{Y: one*9 - 127*256, VY: -127 * 256}},
		{api.Ship{X: one, Y: one}, api.Input{X: -128, Y: -128, B: 254}, api.Ship{X: one - 127*256, Y: one - 127*256, VX: -127 * 256, VY: -127 * 256}},
		{api.Ship{VX: 160, VY: -160}, api.Input{}, api.Ship{X: 150, Y: side - 150, VX: 150, VY: -150}},
		{api.Ship{VX: 8 * one, VY: -8 * one, Score: 7}, api.Input{X: 127, Y: -127}, api.Ship{X: 7*one + one/2 + 127*256, Y: side - 7*one - one/2 - 127*256, VX: 7*one + one/2 + 127*256, VY: -7*one - one/2 - 127*256, Score: 7}},
	} {
		for slot := range api.Slots {
			g := New("fly")
			c.ship.On, c.want.On = true, true
			g.Ships[slot] = c.ship
			var in inputs
			for i := range in {
				in[i] = api.Input{X: 99, Y: -99, B: 1} // of slots that nobody has
			}
			in[slot] = c.stick
			n := step(t, g, in)
			if n.Ships[slot] != c.want || len(n.Shots) != 0 || n.Dice != g.Dice || n.Frame != 1 {
				t.Errorf("slot %d, %+v with %v: %+v", slot, c.ship, c.stick, n)
			}
		}
	}
}

// Promise 6.2: only the lowest button shoots; the shot begins where the ship
// is when it has flown, has the stick's aim, and flies at once.
func TestShoot(t *testing.T) {
	for b := range 256 {
		g := duel(0, 0, side/2, side/2)
		n := step(t, g, inputs{1: {B: uint8(b)}})
		if shoots := b&1 == 1; shoots != (len(n.Shots) == 1) || shoots != (n.Ships[1].Cool == 10) || n.Ships[0].Cool != 0 {
			t.Errorf("buttons %d: %+v", b, n)
		}
	}
	for _, c := range []struct {
		stick  api.Input
		vx, vy int32
	}{
		{api.Input{B: 1}, 6 * one, 0}, {api.Input{X: 1, B: 1}, 6 * one, 0}, {api.Input{X: -128, B: 3}, -6 * one, 0},
		{api.Input{Y: 127, B: 255}, 0, 6 * one}, {api.Input{Y: -1, B: 1}, 0, -6 * one}, {api.Input{X: 3, Y: -128, B: 1}, 6 * one, -6 * one},
	} {
		g := duel(one, 2*one, side/2, side/2)
		g.Ships[0].VX, g.Ships[0].VY = 3*one, -5*one
		n := step(t, g, inputs{c.stick})
		ship := n.Ships[0]
		want := api.Shot{X: wantRound(int64(ship.X) + int64(c.vx)), Y: wantRound(int64(ship.Y) + int64(c.vy)), VX: c.vx, VY: c.vy, Left: 23}
		if !slices.Equal(n.Shots, []api.Shot{want}) || ship.Cool != 10 {
			t.Errorf("%v: %+v, not %+v", c.stick, n.Shots, want)
		}
	}
}

// Promise 6.2: who holds the button shoots in each eleventh frame: a ship that
// cools in a frame does not shoot in it; and a shot is there for 23 of them.
func TestHoldingTheButton(t *testing.T) {
	g := New("hold")
	g.Ships[4] = api.Ship{On: true}
	left := []int{}
	for frame := range 200 {
		g = step(t, g, inputs{4: {B: 1}})
		for i := range left {
			left[i]--
		}
		if frame%11 == 0 {
			left = append(left, 23)
		}
		left = slices.DeleteFunc(left, func(l int) bool { return l == 0 })
		if cool := 10 - frame%11; g.Ships[4].Cool != cool || len(g.Shots) != len(left) {
			t.Fatalf("frame %d: %+v", frame, g)
		}
		for i, s := range g.Shots {
			if s.Left != left[i] || s.Owner != 4 {
				t.Fatalf("frame %d: %+v, not %v", frame, g.Shots, left)
			}
		}
	}
	for frame := range 30 {
		was := g.Ships[4].Cool
		g = step(t, g, inputs{4: {B: 254}})
		if g.Ships[4].Cool != max(was-1, 0) {
			t.Fatalf("%d frames let go: %+v", frame, g.Ships[4])
		}
	}
	if len(g.Shots) != 0 {
		t.Errorf("shots that never go: %+v", g.Shots)
	}
}

// Promise 6.2: new shots stand behind the others, by slots; who finds no room
// for one doesn't cool.
func TestManyShots(t *testing.T) {
	for had := range api.MaxShots + 1 {
		g := New("many")
		var in inputs
		for i := range g.Ships {
			g.Ships[i] = api.Ship{On: true, X: int32(i) * 30 * one}
			in[i] = api.Input{Y: 5, B: 1}
		}
		g.Ships[2], g.Ships[5].Cool = api.Ship{}, 1
		var want []int
		for i := range had {
			owner := 7 - i%8
			g.Shots = append(g.Shots, api.Shot{Owner: owner, X: 100, Y: side / 2, Left: 9})
			want = append(want, owner)
		}
		shot := [api.Slots]bool{}
		for _, slot := range []int{0, 1, 3, 4, 6, 7} {
			if len(want) < 32 {
				want = append(want, slot)
				shot[slot] = true
			}
		}
		n := step(t, g, in)
		var got []int
		for _, s := range n.Shots {
			got = append(got, s.Owner)
		}
		if !slices.Equal(got, want) {
			t.Errorf("of %d shots: %v, not %v", had, got, want)
		}
		for i, s := range n.Ships {
			if (s.Cool == 10) != shot[i] || s.Cool != 10 && s.Cool != 0 {
				t.Errorf("of %d shots: slot %d has Cool %d", had, i, s.Cool)
			}
		}
	}
}

// Promise 6.2: a shot that goes in a frame gives no room for another in it.
func TestNoRoomYet(t *testing.T) {
	g := duel(0, 0, side/2, 0)
	for range api.MaxShots {
		g.Shots = append(g.Shots, api.Shot{Owner: 3, X: 9, Y: side / 2, Left: 1})
	}
	if n := step(t, g, inputs{{B: 1}, {B: 1}}); len(n.Shots) != 0 || n.Ships[0].Cool != 0 || n.Ships[1].Cool != 0 {
		t.Errorf("%+v", n)
	}
}

// Promise 6.2: a shot flies, round the edge too; behind its last frame it hits
// nobody.
func TestShotsFly(t *testing.T) {
	g := duel(0, 0, 60*one, 0)
	g.Shots = []api.Shot{
		{Owner: 5, X: side - 1, Y: side / 2, VX: 6 * one, VY: -6 * one, Left: 24},
		{Owner: 0, X: 60 * one, Left: 1},
		{Owner: 5, X: 0, Y: side / 2, VX: -1, VY: 1, Left: 2},
	}
	n := step(t, g, inputs{})
	want := []api.Shot{
		{Owner: 5, X: 6*one - 1, Y: side/2 - 6*one, VX: 6 * one, VY: -6 * one, Left: 23},
		{Owner: 5, X: side - 1, Y: side/2 + 1, VX: -1, VY: 1, Left: 1},
	}
	if !slices.Equal(n.Shots, want) || n.Ships != g.Ships || n.Dice != g.Dice {
		t.Errorf("%+v", n)
	}
}

// Promise 6.2: a shot hits from where it has flown to, less than 12 away on
// both axes, a ship that is not its owner's.
func TestWhoIsHit(t *testing.T) {
	const reach = 12 * one
	for _, c := range []struct {
		name string
		shot api.Shot
		hits bool
	}{
		{"on it", api.Shot{X: 100 * one, Y: 100 * one}, true},
		{"its own", api.Shot{Owner: 1, X: 100 * one, Y: 100 * one}, false},
		{"nobody's", api.Shot{Owner: 7, X: 100 * one, Y: 100 * one}, true},
		{"just in reach", api.Shot{X: 100*one + reach - 1, Y: 100*one - reach + 1}, true},
		{"out of reach along x", api.Shot{X: 100*one + reach, Y: 100 * one}, false},
		{"out of reach along y", api.Shot{X: 100 * one, Y: 100*one - reach}, false},
		{"comes in reach", api.Shot{X: 100*one + reach, Y: 100 * one, VX: -1}, true},
		{"leaves it", api.Shot{X: 100*one + reach - 1, Y: 100 * one, VX: 1}, false},
		{"axes that are changed for each other", api.Shot{X: 100 * one, Y: 140 * one}, false},
		{"last but one", api.Shot{X: 100 * one, Y: 100 * one, Left: 2}, true},
		{"last", api.Shot{X: 100 * one, Y: 100 * one, Left: 1}, false},
	} {
		g := duel(0, 0, 100*one, 100*one)
		g.Ships[1].Cool, g.Ships[1].Score, g.Ships[0].Score = 10, 5, 3
		if c.shot.Left == 0 {
			c.shot.Left = 9
		}
		g.Shots = []api.Shot{c.shot}
		n := step(t, g, inputs{})
		x, y, d := wantPlace(g.Dice)
		ship, score, dice := api.Ship{On: true, X: 100 * one, Y: 100 * one, Cool: 9, Score: 5}, 3, g.Dice
		if c.hits {
			ship, dice = api.Ship{On: true, X: x, Y: y, Score: 5}, d
			if c.shot.Owner == 0 {
				score = 4
			}
		}
		if n.Ships[1] != ship || n.Ships[0].Score != score || n.Dice != dice || n.Ships[7] != (api.Ship{}) {
			t.Errorf("%s: %+v", c.name, n)
		}
		if stays := !c.hits && c.shot.Left != 1; stays != (len(n.Shots) == 1) {
			t.Errorf("%s: shots %+v", c.name, n.Shots)
		}
	}
}

// Promise 6.2: the field has no edge for who is hit either.
func TestHitRoundTheEdge(t *testing.T) {
	g := duel(side/2, side/2, 0, side-1)
	g.Shots = []api.Shot{{X: side - 1, Y: side - 6*one, VY: 6 * one, Left: 5}}
	if n := step(t, g, inputs{}); len(n.Shots) != 0 || n.Ships[0].Score != 1 {
		t.Errorf("%+v", n)
	}
}

// Promise 6.2: where the ship is when it has flown counts, and a shot that was
// just made hits too.
func TestHitAtOnce(t *testing.T) {
	g := duel(20*one, 0, 38*one, 0)
	if n := step(t, g, inputs{{B: 1}, {X: 1}}); len(n.Shots) != 1 || n.Ships[0].Score != 0 {
		t.Errorf("it flew out of reach: %+v", n)
	}
	n := step(t, g, inputs{{B: 1}, {X: -1}})
	x, y, d := wantPlace(g.Dice)
	if len(n.Shots) != 0 || n.Ships[0].Score != 1 || n.Ships[1] != (api.Ship{On: true, X: x, Y: y}) || n.Dice != d {
		t.Errorf("it flew into reach: %+v", n)
	}
	if n.Ships[0].Cool != 10 {
		t.Errorf("who shot cools: %+v", n.Ships[0])
	}
}

// Promise 6.2: of those in reach the first one by slots is hit, and none else;
// the next shot finds it gone; places are thrown one behind the other.
func TestFirstBySlots(t *testing.T) {
	g := New("first by slots")
	for _, slot := range []int{1, 3, 4, 6} {
		g.Ships[slot] = api.Ship{On: true, X: one * int32(10-slot), Cool: 9, Score: slot}
	}
	for _, owner := range []int{3, 1, 0, 6, 6} {
		g.Shots = append(g.Shots, api.Shot{Owner: owner, X: 5 * one, Left: 7})
	}
	n := step(t, g, inputs{})
	var x, y [3]int32
	d := g.Dice
	for i := range x {
		x[i], y[i], d = wantPlace(d)
		if wantNear(x[i], 5*one) && wantNear(y[i], 0) {
			t.Fatal("take another seed: one is placed where the shots are")
		}
	}
	// 3 hits 1; 1 hits 3; 0, of which no ship is there, hits 4; both of 6 hit
	// nobody any more.
	want := [api.Slots]api.Ship{
		1: {On: true, X: x[0], Y: y[0], Score: 2},
		3: {On: true, X: x[1], Y: y[1], Score: 4},
		4: {On: true, X: x[2], Y: y[2], Score: 4},
		6: {On: true, X: 4 * one, Cool: 8, Score: 6},
	}
	if n.Ships != want || n.Dice != d || len(n.Shots) != 2 || n.Shots[0].Owner != 6 || n.Shots[1].Owner != 6 {
		t.Errorf("%+v, not %+v", n, want)
	}
}

// Promise 6.2: who is placed where the next shot is, is hit again.
func TestHitAgain(t *testing.T) {
	g := duel(0, 0, 100*one, 100*one)
	x, y, d := wantPlace(g.Dice)
	g.Shots = []api.Shot{{Owner: 2, X: 100 * one, Y: 100 * one, Left: 7}, {X: x, Y: y, Left: 7}, {X: 100 * one, Y: 100 * one, Left: 7}}
	x, y, d = wantPlace(d)
	n := step(t, g, inputs{})
	if n.Ships[1] != (api.Ship{On: true, X: x, Y: y}) || n.Dice != d || n.Ships[0].Score != 1 || len(n.Shots) != 1 || n.Shots[0].X != 100*one {
		t.Errorf("%+v", n)
	}
}

// Promise 6.2: a score stops at 2^30; it is its own that a ship takes to where
// it is placed.
func TestScore(t *testing.T) {
	for _, c := range []struct{ had, want int }{{0, 1}, {41, 42}, {1<<30 - 1, 1 << 30}, {1 << 30, 1 << 30}} {
		g := duel(0, 0, 100*one, 0)
		g.Ships[0].Score, g.Ships[1].Score = c.had, 1<<30
		g.Shots = []api.Shot{{X: 100 * one, Left: 7}}
		if n := step(t, g, inputs{}); n.Ships[0].Score != c.want || n.Ships[1].Score != 1<<30 || n.Ships[1].X == 100*one {
			t.Errorf("%d: %+v", c.had, n)
		}
	}
}

// Promise 6.3: Spawn, in each slot, at each place that the dice throw.
func TestSpawn(t *testing.T) {
	for slot := range api.Slots {
		g := full()
		g.Ships[slot] = api.Ship{}
		for d := range uint64(20) {
			g.Dice = d * 0x0123456789abcdef
			holds(t, g, inputs{})
			n, code := Spawn(g, slot)
			x, y, behind := wantPlace(g.Dice)
			if code != api.OK || n.Ships[slot] != (api.Ship{On: true, X: x, Y: y}) || n.Dice != behind || n.Frame != g.Frame || !slices.Equal(n.Shots, g.Shots) {
				t.Fatalf("slot %d, dice %#x: %+v, %d", slot, g.Dice, n, code)
			}
			again, code := Spawn(n, slot)
			if code != api.ErrArg || !wantSame(again, n) {
				t.Fatalf("slot %d again: %+v, %d", slot, again, code)
			}
		}
	}
}

// Promise 6.3: Remove takes the ship and its shots, and leaves the others in
// their order.
func TestRemove(t *testing.T) {
	for slot := range api.Slots {
		g := full()
		g.Shots[0].Left, g.Shots[9].Left, g.Shots[31].X = 3, 4, 5
		holds(t, g, inputs{})
		n, code := Remove(g, slot)
		ships := g.Ships
		ships[slot] = api.Ship{}
		shots := slices.DeleteFunc(slices.Clone(g.Shots), func(s api.Shot) bool { return s.Owner == slot })
		if code != api.OK || n.Ships != ships || !slices.Equal(n.Shots, shots) || len(n.Shots) != 28 || n.Dice != g.Dice || n.Frame != g.Frame {
			t.Fatalf("slot %d: %+v, %d", slot, n, code)
		}
		again, code := Remove(n, slot)
		if code != api.ErrArg || !wantSame(again, n) {
			t.Fatalf("slot %d again: %+v, %d", slot, again, code)
		}
		holds(t, n, inputs{})
	}
}

// Promise 6.3: who comes again begins anew.
func TestSpawnBehindRemove(t *testing.T) {
	g := full()
	g, _ = Remove(g, 3)
	x, y, _ := wantPlace(g.Dice)
	if g, code := Spawn(g, 3); code != api.OK || g.Ships[3] != (api.Ship{On: true, X: x, Y: y}) || len(g.Shots) != 28 {
		t.Errorf("%+v, %d", g, code)
	}
}

// Promise 6.3: each part counts, and a nil list is an empty one.
func TestSame(t *testing.T) {
	changes := []func(g *api.Game){
		func(g *api.Game) { g.Frame++ },
		func(g *api.Game) { g.Dice++ },
		func(g *api.Game) { g.Dice ^= 1 << 63 },
		func(g *api.Game) { g.Shots = g.Shots[1:] },
		func(g *api.Game) { g.Shots = g.Shots[:31] },
		func(g *api.Game) { g.Shots = nil },
		func(g *api.Game) { g.Shots = append(g.Shots, api.Shot{}) },
		func(g *api.Game) { g.Shots[0], g.Shots[1] = g.Shots[1], g.Shots[0] },
	}
	for i := range api.Slots {
		changes = append(changes,
			func(g *api.Game) { g.Ships[i].On = false },
			func(g *api.Game) { g.Ships[i].X-- },
			func(g *api.Game) { g.Ships[i].Y-- },
			func(g *api.Game) { g.Ships[i].VX-- },
			func(g *api.Game) { g.Ships[i].VY-- },
			func(g *api.Game) { g.Ships[i].Cool-- },
			func(g *api.Game) { g.Ships[i].Score-- })
	}
	for i := range api.MaxShots {
		changes = append(changes,
			func(g *api.Game) { g.Shots[i].Owner++ },
			func(g *api.Game) { g.Shots[i].X-- },
			func(g *api.Game) { g.Shots[i].Y-- },
			func(g *api.Game) { g.Shots[i].VX-- },
			func(g *api.Game) { g.Shots[i].VY-- },
			func(g *api.Game) { g.Shots[i].Left-- })
	}
	for i, change := range changes {
		a, b := full(), full()
		if !Same(a, b) {
			t.Fatal("the same, made twice")
		}
		change(&b)
		if Same(a, b) || Same(b, a) || !Same(b, b) {
			t.Errorf("change %d", i)
		}
	}
	a, b := New("s"), New("s")
	b.Shots = []api.Shot{}
	if !Same(a, b) || !Same(b, a) || !Same(api.Game{}, api.Game{}) || Same(a, New("t")) {
		t.Error("games without shots")
	}
	odd := wrong()[0]
	if !Same(odd, odd) {
		t.Error("what may not be is what it is")
	}
}

// Promise 6.4: nothing is kept of a frame: going back to it and on again makes
// the same, whatever was done in between.
func TestBackAndAgain(t *testing.T) {
	r := rand.New(rand.NewPCG(6, 4))
	g := crowd(r)
	for range 300 {
		in := sticks(r)
		first, _ := Step(g, in)
		other, _ := Step(g, sticks(r))
		Step(other, in)
		Remove(g, r.IntN(8))
		Spawn(g, r.IntN(8))
		New("between")
		if again, code := Step(g, in); code != api.OK || !wantSame(first, again) || !Same(first, again) {
			t.Fatalf("%+v, then %+v", first, again)
		}
		g = first
	}
}

// crowd is a game that may be, with much going on at a small place.
func crowd(r chance) api.Game {
	g := api.Game{Frame: r.IntN(api.MaxFrame), Dice: r.Uint64()}
	x, y := r.Int64N(side), r.Int64N(side)
	near := func(v int64) int32 { return wantRound(v + r.Int64N(60*one) - 30*one) }
	speed := func(top int32) int32 { return r.Int32N(2*top+1) - top }
	for i := range g.Ships {
		if r.IntN(4) > 0 {
			g.Ships[i] = api.Ship{On: true, X: near(x), Y: near(y), VX: speed(8 * one), VY: speed(8 * one)}
			g.Ships[i].Cool = max(0, r.IntN(20)-9)
			g.Ships[i].Score = []int{0, r.IntN(100), 1<<30 - 1, 1 << 30}[r.IntN(4)]
		}
	}
	count := r.IntN(33)
	if r.IntN(3) == 0 {
		count = 32 - r.IntN(4)
	}
	for range count {
		s := api.Shot{Owner: r.IntN(8), X: near(x), Y: near(y), VX: speed(6 * one), VY: speed(6 * one), Left: 1 + r.IntN(24)}
		if r.IntN(3) == 0 {
			s.X = wantRound(int64(s.X) + side/2)
		}
		g.Shots = append(g.Shots, s)
	}
	return g
}

// sticks is what eight slots do, by chance.
func sticks(r chance) inputs {
	var in inputs
	for i := range in {
		in[i] = api.Input{X: int8(r.Int()), Y: int8(r.Int()), B: uint8(r.Int())}
		switch r.IntN(8) {
		case 0:
			in[i].X = -128
		case 1:
			in[i].Y = -128
		case 2:
			in[i].X, in[i].Y = 0, 0
		}
	}
	return in
}

// Promises 6.1 to 6.4: crowds, a frame at a time.
func TestCrowds(t *testing.T) {
	r := rand.New(rand.NewPCG(6, 2))
	hits, shots := 0, 0
	for range 2000 {
		g, in := crowd(r), sticks(r)
		if !May(g) {
			t.Fatalf("%+v may be", g)
		}
		holds(t, g, in)
		n, _ := Step(g, in)
		if n.Dice != g.Dice {
			hits++
		}
		if len(n.Shots) > 0 && n.Shots[len(n.Shots)-1].Left == 23 {
			shots++
		}
	}
	if hits < 500 || shots < 500 {
		t.Errorf("only %d crowds with hits, %d with new shots", hits, shots)
	}
}

// throw is a number from 0 to less than n, and the throw behind d.
func throw(d uint64, n uint64) (int, uint64) {
	d = d*6364136223846793005 + 1442695040888963407
	return int((d >> 32) * n >> 32), d
}

// play is a game in which by chance one slot does something else in each frame,
// and now and then one comes or goes; and a number of all that was on its way.
func play(name string, frames int) (api.Game, uint64) {
	g, r := New(name), wantSeed(name+"'s chance")
	var in inputs
	seen := uint64(0)
	for frame := range frames {
		slot, d := throw(r, 8)
		_, r = throw(d, 1)
		e := uint32(r >> 32)
		in[slot] = api.Input{X: int8(e), Y: int8(e >> 8), B: uint8(e >> 16)}
		if frame%50 == 0 {
			slot, r = throw(r, 8)
			if !g.Ships[slot].On {
				g, _ = Spawn(g, slot)
			} else {
				var goes int
				if goes, r = throw(r, 4); goes == 0 {
					g, _ = Remove(g, slot)
				}
			}
		}
		g, _ = Step(g, in)
		seen = look(seen, g)
	}
	return g, seen
}

// look mixes all of g into seen.
func look(seen uint64, g api.Game) uint64 {
	mix := func(list ...int) {
		for _, v := range list {
			seen = seen*1099511628211 + uint64(v)
		}
	}
	mix(g.Frame)
	seen = seen*1099511628211 + g.Dice
	for _, s := range g.Ships {
		if s.On {
			mix(1, int(s.X), int(s.Y), int(s.VX), int(s.VY), s.Cool, s.Score)
		} else {
			mix(0)
		}
	}
	mix(len(g.Shots))
	for _, s := range g.Shots {
		mix(s.Owner, int(s.X), int(s.Y), int(s.VX), int(s.VY), s.Left)
	}
	return seen
}

// Promise 6.4: a long game, as another program played it; and the same for
// each that plays it, whoever plays meanwhile.
func TestLongGame(t *testing.T) {
	type end struct {
		seen, dice uint64
		shots      int
		scores     [api.Slots]int
	}
	want := end{0x7f477f8377048806, 0x8d50bd199b353716, 10, [api.Slots]int{7, 6, 66, 15, 81, 47, 33, 14}}
	var got [8]end
	var peers sync.WaitGroup
	for i := range got {
		peers.Go(func() {
			g, seen := play("a long game", 20_000)
			got[i] = end{seen: seen, dice: g.Dice, shots: len(g.Shots)}
			for slot, ship := range g.Ships {
				got[i].scores[slot] = ship.Score
			}
			if !May(g) || g.Frame != 20_000 {
				t.Errorf("peer %d: %+v", i, g)
			}
		})
	}
	peers.Wait()
	for i, e := range got {
		if e != want {
			t.Errorf("peer %d: %+v, not %+v", i, e, want)
		}
	}
}

// Promise 6.4: peers that go on from one and the same game don't disturb each
// other: what is handed in is only read.
func TestOneGameForMany(t *testing.T) {
	g := crowd(rand.New(rand.NewPCG(1, 1)))
	g.Shots = append(slices.Clone(g.Shots), make([]api.Shot, 12)...)[:len(g.Shots)]
	var in inputs
	in[0].B = 1
	want, _ := wantStep(g, in)
	var got [8]api.Game
	var peers sync.WaitGroup
	for i := range got {
		peers.Go(func() {
			for range 200 {
				got[i], _ = Step(g, in)
				Remove(g, i)
				Spawn(g, i)
			}
		})
	}
	peers.Wait()
	for i := range got {
		if !wantSame(got[i], want) {
			t.Errorf("peer %d: %+v, not %+v", i, got[i], want)
		}
	}
}

// Promises 6.1 to 6.4: crowds, of which some part is anything.
func FuzzAll(f *testing.F) {
	f.Add(uint64(1), uint8(0), int64(0))
	f.Add(uint64(2), uint8(1), int64(-1))
	f.Add(uint64(3), uint8(8), int64(math.MinInt32))
	f.Add(uint64(4), uint8(13), int64(math.MaxInt64))
	f.Fuzz(func(t *testing.T, seed uint64, part uint8, v int64) {
		r := rand.New(rand.NewPCG(seed, 6))
		g, in := crowd(r), sticks(r)
		bend(&g, r, part, v)
		holds(t, g, in)
		if !Same(g, g) {
			t.Errorf("%+v isn't itself", g)
		}
	})
}

// bend makes a part of g v.
func bend(g *api.Game, r chance, part uint8, v int64) {
	ship := &g.Ships[r.IntN(8)]
	shot := &api.Shot{}
	if len(g.Shots) > 0 {
		shot = &g.Shots[r.IntN(len(g.Shots))]
	}
	switch part % 16 {
	case 1:
		g.Frame = int(v)
	case 2:
		g.Dice = uint64(v)
	case 3:
		ship.On = !ship.On
	case 4:
		ship.X = int32(v)
	case 5:
		ship.Y = int32(v)
	case 6:
		ship.VX = int32(v)
	case 7:
		ship.VY = int32(v)
	case 8:
		ship.Cool = int(v)
	case 9:
		ship.Score = int(v)
	case 10:
		shot.Owner = int(v)
	case 11:
		shot.X = int32(v)
	case 12:
		shot.Y = int32(v)
	case 13:
		shot.VX, shot.VY = int32(v), int32(v>>32)
	case 14:
		shot.Left = int(v)
	case 15:
		g.Shots = append(g.Shots, make([]api.Shot, uint8(v)%40)...)
	}
}
