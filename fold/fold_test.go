package fold

import (
	"fmt"
	"math"
	"math/rand/v2"
	"slices"
	"testing"

	"ceilidh/api"
	"ceilidh/dice"
	"ceilidh/entry"
	"ceilidh/game"
	"ceilidh/roster"
)

type chance = *rand.Rand

// What the document tells of a log, by the layers below.

// wantMay is what promise 10.1 tells of May.
func wantMay(s api.State) bool {
	ok := game.May(s.Game) && roster.May(s.Roster)
	for i, ship := range s.Game.Ships {
		ok = ok && ship.On == (s.Roster.Seats[i].Peer != -1)
	}
	return ok
}

// wantApply is what promise 10.2 tells of Apply.
func wantApply(s api.State, e api.Entry) (api.State, int) {
	if !wantMay(s) || !entry.May(e) || e.Frame != s.Game.Frame {
		return s, 1
	}
	n, code := s, 0
	for _, event := range e.Events {
		if n.Roster, code = roster.Apply(n.Roster, event); code != 0 {
			return s, 1
		}
		if event.Kind == 2 {
			n.Game, _ = game.Remove(n.Game, event.Slot)
		} else {
			n.Game, _ = game.Spawn(n.Game, event.Slot)
		}
	}
	for i, in := range e.Inputs {
		if n.Roster.Seats[i].Peer == -1 && in != (api.Input{}) {
			return s, 1
		}
	}
	if n.Game, code = game.Step(n.Game, e.Inputs); code != 0 {
		return s, code
	}
	return n, 0
}

// wantSame tells whether a and b are alike in all parts: a text has all of them.
func wantSame(a, b api.State) bool {
	a.Game.Shots, b.Game.Shots = append([]api.Shot{}, a.Game.Shots...), append([]api.Shot{}, b.Game.Shots...)
	return fmt.Sprintf("%#v", a) == fmt.Sprintf("%#v", b)
}

// holds tells where Apply or Run isn't what is told of it, or changes or shares
// what was handed in; and answers what is told.
func holds(t *testing.T, s api.State, e api.Entry) (api.State, int) {
	t.Helper()
	room := append(slices.Clone(s.Game.Shots), make([]api.Shot, 9)...) // nobody may write behind the list either
	s.Game.Shots = room[:len(s.Game.Shots)]
	before, events := slices.Clone(room), slices.Clone(e.Events)
	want, ok := wantApply(s, e)
	want.Game.Shots = slices.Clone(want.Game.Shots)
	look := func(call string, got api.State, code int, want api.State, ok int) {
		t.Helper()
		if code != ok || !wantSame(got, want) {
			t.Fatalf("%s of %+v and %+v:\n%+v, %d, not\n%+v, %d", call, s, e, got, code, want, ok)
		}
		whole := got.Game.Shots[:cap(got.Game.Shots)]
		for i := range whole {
			whole[i].Owner = -9 // the answer is the caller's own
		}
		if !slices.Equal(room, before) || !slices.Equal(events, e.Events) {
			t.Fatalf("%s writes in what was handed in, or shares it", call)
		}
	}
	got, code := Apply(s, e)
	look("Apply", got, code, want, ok)
	got, code = Run(s, []api.Entry{e})
	look("Run", got, code, want, ok)
	got, code = Run(s, nil)
	look("Run of none", got, code, s, 0)
	if May(s) != wantMay(s) {
		t.Fatalf("May(%+v): %v", s, May(s))
	}
	return want, ok
}

// join is an entry in which peers join their slots for the first time.
func join(frame int, slots ...int) api.Entry {
	e := api.Entry{Frame: frame}
	for _, slot := range slots {
		e.Events = append(e.Events, api.Event{Kind: api.Join, Slot: slot, Gen: 1, Peer: slot + 4})
	}
	return e
}

// crowd is a state ahead of frame 1, in which these slots have somebody.
func crowd(t *testing.T, slots ...int) api.State {
	t.Helper()
	s, code := Apply(Start("crowd"), join(0, slots...))
	if code != api.OK {
		t.Fatalf("%v: %d", slots, code)
	}
	return s
}

// Promise 10.1: nothing but the seed.
func TestStart(t *testing.T) {
	for _, seed := range []string{"", "s", "a game", "\xff\x00"} {
		s := Start(seed)
		if !wantSame(s, api.State{Game: game.New(seed), Roster: roster.New()}) || !May(s) {
			t.Errorf("Start(%q): %+v", seed, s)
		}
	}
}

// Promise 10.1: who has a slot has a ship, and nobody else; and each part by
// itself may be.
func TestMay(t *testing.T) {
	if May(api.State{}) || May(api.State{Game: game.New("s")}) {
		t.Error("peer 0 has all slots")
	}
	for name, spoil := range map[string]func(s *api.State){
		"Frame":              func(s *api.State) { s.Game.Frame = -1 },
		"a shot":             func(s *api.State) { s.Game.Shots = []api.Shot{{Owner: 8, Left: 1}} },
		"many shots":         func(s *api.State) { s.Game.Shots = slices.Repeat([]api.Shot{{Left: 1}}, 33) },
		"Version":            func(s *api.State) { s.Roster.Version = 1<<30 + 1 },
		"a peer twice":       func(s *api.State) { s.Roster.Seats[2].Peer = s.Roster.Seats[5].Peer },
		"a ship, no seat":    func(s *api.State) { s.Roster.Seats[2].Peer = -1 },
		"a seat, no ship":    func(s *api.State) { s.Game.Ships[2] = api.Ship{} },
		"a ship beside it":   func(s *api.State) { s.Game.Ships[3].On = true },
		"a seat never given": func(s *api.State) { s.Roster.Seats[2].Gen = 0 },
	} {
		s := crowd(t, 2, 5)
		if !May(s) {
			t.Fatalf("%+v may be", s)
		}
		if spoil(&s); May(s) {
			t.Errorf("%s: may be", name)
		}
		if _, code := holds(t, s, api.Entry{Frame: s.Game.Frame}); code != api.ErrArg {
			t.Errorf("%s: %d", name, code)
		}
	}
}

// Promise 10.2: a Join at frame 0: the ship is on the field in frame 0, and does
// what it does in it.
func TestJoin(t *testing.T) {
	for slot := range api.Slots {
		e := join(0, slot)
		e.Inputs[slot] = api.Input{X: 127, B: 1}
		s, code := holds(t, Start("s"), e)
		if ship := s.Game.Ships[slot]; code != api.OK || !ship.On || ship.VX != 127*256 || ship.Cool != 10 || s.Game.Frame != 1 {
			t.Errorf("slot %d: %+v, %d", slot, s, code)
		}
		if s.Roster.Seats[slot] != (api.Seat{Peer: slot + 4, Gen: 1}) || s.Roster.Version != 1 {
			t.Errorf("slot %d: %+v", slot, s.Roster)
		}
	}
	if s, code := holds(t, Start("s"), join(0, 0, 1, 2, 3, 4, 5, 6, 7)); code != api.OK || s.Roster.Version != 8 || !s.Game.Ships[7].On {
		t.Errorf("all at once: %+v, %d", s, code)
	}
}

// Promise 10.2: who leaves takes ship and shots along; who joins in the same
// frame begins anew, with the next number.
func TestLeaveAndJoin(t *testing.T) {
	s := crowd(t, 2, 5)
	e := api.Entry{Frame: 1}
	e.Inputs[2].B, e.Inputs[5].B = 1, 1
	s, _ = holds(t, s, e)
	if len(s.Game.Shots) != 2 {
		t.Fatalf("%+v", s)
	}
	leave := api.Event{Kind: api.Leave, Slot: 2, Gen: 1, Peer: 6}
	n, code := holds(t, s, api.Entry{Frame: 2, Events: []api.Event{leave}})
	if code != api.OK || n.Game.Ships[2] != (api.Ship{}) || len(n.Game.Shots) != 1 || n.Roster.Seats[2] != (api.Seat{Peer: -1, Gen: 1}) {
		t.Errorf("%+v, %d", n, code)
	}
	for peer, want := range map[int]int{6: 0, 0: 0, 11: 0, 9: 1, 12: 1} {
		e = api.Entry{Frame: 2, Events: []api.Event{leave, {Kind: api.Join, Slot: 2, Gen: 2, Peer: peer}}}
		e.Inputs[2].Y = 5
		n, code = holds(t, s, e)
		if code != want || code == api.OK && (n.Roster.Seats[2] != api.Seat{Peer: peer, Gen: 2} || n.Game.Ships[2].VY != 5*256) {
			t.Errorf("peer %d: %+v, %d", peer, n, code)
		}
	}
}

// Promise 10.2: what may not be is ErrArg, beside what was, wherever it stands
// in the entry.
func TestWrongEntries(t *testing.T) {
	leave := func(slot, gen, peer int) api.Event {
		return api.Event{Kind: api.Leave, Slot: slot, Gen: gen, Peer: peer}
	}
	in := func(slot int, does api.Input) (all [api.Slots]api.Input) {
		all[slot] = does
		return all
	}
	for name, e := range map[string]api.Entry{
		"an elder frame":        {Frame: 0},
		"a frame ahead":         {Frame: 2},
		"no frame":              {Frame: -1},
		"no stick":              {Frame: 1, Inputs: in(2, api.Input{X: -128})},
		"X of nobody":           {Frame: 1, Inputs: in(3, api.Input{X: 1})},
		"Y of nobody":           {Frame: 1, Inputs: in(0, api.Input{Y: -1})},
		"buttons of nobody":     {Frame: 1, Inputs: in(7, api.Input{B: 1})},
		"of one who leaves":     {Frame: 1, Events: []api.Event{leave(2, 1, 6)}, Inputs: in(2, api.Input{B: 2})},
		"leave, another peer":   {Frame: 1, Events: []api.Event{leave(2, 1, 7)}},
		"leave, another time":   {Frame: 1, Events: []api.Event{leave(2, 2, 6)}},
		"leave of nobody":       {Frame: 1, Events: []api.Event{leave(3, 1, 6)}},
		"join where one is":     {Frame: 1, Events: []api.Event{{Kind: api.Join, Slot: 2, Gen: 2, Peer: 1}}},
		"join of one who is":    {Frame: 1, Events: []api.Event{{Kind: api.Join, Slot: 3, Gen: 1, Peer: 6}}},
		"join, another time":    {Frame: 1, Events: []api.Event{{Kind: api.Join, Slot: 3, Gen: 2, Peer: 1}}},
		"join ahead of leave":   {Frame: 1, Events: []api.Event{{Kind: api.Join, Slot: 3, Gen: 1, Peer: 1}, leave(2, 1, 6)}},
		"the second one wrong":  {Frame: 1, Events: []api.Event{leave(2, 1, 6), leave(5, 1, 6)}},
		"one peer joins twice":  {Frame: 1, Events: []api.Event{{Kind: api.Join, Slot: 3, Gen: 1, Peer: 1}, {Kind: api.Join, Slot: 4, Gen: 1, Peer: 1}}},
		"an event that is none": {Frame: 1, Events: []api.Event{{}}},
	} {
		s := crowd(t, 2, 5)
		s, code := holds(t, s, e)
		if code != api.ErrArg || !wantSame(s, crowd(t, 2, 5)) {
			t.Errorf("%s: %d, %+v", name, code, s)
		}
	}
}

// Promise 10.2: there is an entry of the last frame but one, and none behind it.
func TestLastFrame(t *testing.T) {
	s := crowd(t, 1)
	s.Game.Frame = api.MaxFrame - 1
	s, code := holds(t, s, api.Entry{Frame: api.MaxFrame - 1})
	if code != api.OK || s.Game.Frame != api.MaxFrame {
		t.Fatalf("%+v, %d", s, code)
	}
	if _, code := holds(t, s, api.Entry{Frame: api.MaxFrame}); code != api.ErrArg {
		t.Errorf("%d", code)
	}
}

// Promise 10.2: a roster's ends are an entry's: there is no event beyond them,
// also if the one ahead of it may still be.
func TestRosterEnds(t *testing.T) {
	const top = 1 << 30
	ask := func(version, gen int, e api.Entry) (api.State, int) {
		s := crowd(t, 2)
		s.Roster.Version, s.Roster.Seats[3].Gen = version, gen
		return holds(t, s, e)
	}
	nth := func(gen int) api.Entry {
		return api.Entry{Frame: 1, Events: []api.Event{{Kind: api.Join, Slot: 3, Gen: gen, Peer: 0}}}
	}
	for name, c := range map[string]struct {
		version, gen int
		e            api.Entry
		code         int
	}{
		"two that fit":         {top - 2, 0, join(1, 3, 4), api.OK},
		"one that fits of two": {top - 1, 0, join(1, 3, 4), api.ErrArg},
		"one that fits":        {top - 1, 0, join(1, 3), api.OK},
		"one too many":         {top, 0, join(1, 3), api.ErrArg},
		"none at the end":      {top, 0, api.Entry{Frame: 1}, api.OK},
		"the last time":        {1, api.MaxGen - 1, nth(api.MaxGen), api.OK},
		"given too often":      {1, api.MaxGen, nth(api.MaxGen), api.ErrArg},
		"and once more":        {1, api.MaxGen, nth(api.MaxGen + 1), api.ErrArg},
	} {
		s, code := ask(c.version, c.gen, c.e)
		if code != c.code || code == api.OK && s.Roster.Version != c.version+len(c.e.Events) {
			t.Errorf("%s: %d, %+v", name, code, s)
		}
	}
}

// Promise 10.2: events are one behind the other: who is ahead is placed first.
func TestPlacesInOrder(t *testing.T) {
	s := crowd(t, 1, 6)
	x, y, d := dice.Place(dice.Seed("crowd"))
	if ship := s.Game.Ships[1]; ship.X != x || ship.Y != y {
		t.Errorf("%+v isn't at %d, %d", ship, x, y)
	}
	x, y, d = dice.Place(d)
	if ship := s.Game.Ships[6]; ship.X != x || ship.Y != y || s.Game.Dice != d {
		t.Errorf("%+v isn't at %d, %d", ship, x, y)
	}
}

// Promise 10.2: events are ahead of the frame: where who leaves had all shots,
// there is room in it.
func TestLeaveMakesRoom(t *testing.T) {
	s := crowd(t, 2, 5)
	s.Game.Shots = slices.Repeat([]api.Shot{{Owner: 2, Left: api.Life}}, api.MaxShots)
	e := api.Entry{Frame: 1}
	e.Inputs[5].B = 1
	n, code := holds(t, s, e)
	if code != api.OK || slices.ContainsFunc(n.Game.Shots, func(shot api.Shot) bool { return shot.Owner == 5 }) {
		t.Errorf("no room: %+v, %d", n, code)
	}
	e.Events = []api.Event{{Kind: api.Leave, Slot: 2, Gen: 1, Peer: 6}}
	n, code = holds(t, s, e)
	if code != api.OK || len(n.Game.Shots) != 1 || n.Game.Shots[0].Owner != 5 {
		t.Errorf("all the room: %+v, %d", n, code)
	}
}

// Rules 1 and 4: whatever is thrown within, a code is answered, beside the state
// as it was. (No entry can bring Step's ErrEnd: its Frame is below MaxFrame.)
func TestThrown(t *testing.T) {
	s := crowd(t, 2, 5)
	s.Game.Shots = make([]api.Shot, 3)
	for name, c := range map[string]struct {
		throw func()
		code  int
	}{
		"ErrArg":  {func() { needThat(false) }, api.ErrArg},
		"ErrEnd":  {func() { need(api.ErrEnd) }, api.ErrEnd},
		"another": {func() { panic("another") }, api.ErrArg},
		"a fault": {func() { s.Game.Shots[len(s.Game.Shots)].Left = 0 }, api.ErrArg},
	} {
		got, code := attempt(s, func() api.State {
			c.throw()
			return api.State{}
		})
		if code != c.code || !wantSame(got, s) || &got.Game.Shots[0] == &s.Game.Shots[0] {
			t.Errorf("%s: %+v, %d", name, got, code)
		}
	}
}

// anyEntry is an entry that may follow s, by chance.
func anyEntry(s api.State, by chance) api.Entry {
	e := api.Entry{Frame: s.Game.Frame}
	r := s.Roster
	for _, kind := range []int{api.Leave, api.Join} {
		for slot := range api.Slots {
			event := api.Event{Kind: kind, Slot: slot, Gen: r.Seats[slot].Gen, Peer: r.Seats[slot].Peer}
			if kind == api.Join {
				event.Gen, event.Peer = event.Gen+1, by.IntN(12)
			}
			if next, code := roster.Apply(r, event); code == api.OK && by.IntN(kind*kind*5) == 0 {
				r = next
				e.Events = append(e.Events, event)
			}
		}
	}
	for slot, seat := range r.Seats {
		if seat.Peer != -1 {
			e.Inputs[slot] = api.Input{X: int8(by.IntN(255) - 127), Y: int8(by.IntN(255) - 127), B: uint8(by.Int())}
		}
	}
	return e
}

// spoil turns some part of e, by chance.
func spoil(e *api.Entry, by chance) {
	event := &api.Event{}
	if len(e.Events) > 0 {
		event = &e.Events[by.IntN(len(e.Events))]
	}
	v := by.IntN(14) - 1
	switch by.IntN(6) {
	case 0:
		event.Kind = v
	case 1:
		event.Slot = v
	case 2:
		event.Gen = v
	case 3:
		event.Peer = v
	case 4:
		e.Frame += v
	case 5:
		e.Inputs[by.IntN(8)] = api.Input{X: int8(-128 + v)}
	}
}

// Promise 10.3: a log makes one game, at once or by pieces, whoever reckons it;
// with an entry that is wrong it makes none.
func TestLogs(t *testing.T) {
	by := rand.New(rand.NewPCG(10, 3))
	const frames = 600
	states, log := []api.State{Start("log")}, []api.Entry{}
	for frame := range frames {
		e := anyEntry(states[frame], by)
		s, code := holds(t, states[frame], e)
		if code != api.OK {
			t.Fatalf("%+v: %d", e, code)
		}
		wrong := e
		wrong.Events = slices.Clone(e.Events)
		spoil(&wrong, by)
		holds(t, states[frame], wrong)
		states, log = append(states, s), append(log, e)
	}
	if last := states[frames].Roster; last.Version < 100 {
		t.Errorf("too little went on: %+v", last)
	}
	for range 100 {
		from := by.IntN(frames)
		to := from + by.IntN(frames-from)
		s, code := Run(states[from], log[from:to])
		if code != api.OK || !wantSame(s, states[to]) || !Same(s, states[to]) {
			t.Fatalf("from %d to %d: %+v, %d", from, to, s, code)
		}
		list := slices.Clone(log[from:])
		at := by.IntN(len(list))
		list[at].Frame--
		s, code = Run(states[from], list)
		if code != api.ErrArg || !wantSame(s, states[from]) {
			t.Fatalf("from %d, wrong at %d: %+v, %d", from, from+at, s, code)
		}
	}
}

// Promise 10.2: nothing is asked of a state, if nothing is to follow it.
func TestRunOfNone(t *testing.T) {
	for _, s := range []api.State{{}, Start("s"), {Game: api.Game{Frame: math.MinInt, Shots: make([]api.Shot, 99)}}} {
		if got, code := Run(s, []api.Entry{}); code != api.OK || !wantSame(got, s) {
			t.Errorf("%+v, %d", got, code)
		}
	}
}

// Promise 10.2: each part counts, and a nil list is an empty one.
func TestSame(t *testing.T) {
	for i, change := range []func(s *api.State){
		func(s *api.State) { s.Game.Frame++ },
		func(s *api.State) { s.Game.Dice++ },
		func(s *api.State) { s.Game.Ships[7].Cool++ },
		func(s *api.State) { s.Game.Shots = make([]api.Shot, 1) },
		func(s *api.State) { s.Roster.Version++ },
		func(s *api.State) { s.Roster.Seats[0].Gen++ },
		func(s *api.State) { s.Roster.Seats[7].Peer-- },
	} {
		a, b := crowd(t, 2, 7), crowd(t, 2, 7)
		b.Game.Shots = []api.Shot{}
		if !Same(a, b) || !Same(b, a) {
			t.Fatal("the same, made twice")
		}
		if change(&b); Same(a, b) || Same(b, a) || !Same(b, b) {
			t.Errorf("change %d", i)
		}
	}
}
