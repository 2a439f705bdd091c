package rollback

import (
	"math"
	"math/bits"
	"math/rand/v2"
	"slices"
	"testing"

	"ceilidh/api"
	"ceilidh/fold"
)

type chance = *rand.Rand

type vector = [api.Slots]api.Input

// half is what a number with half of an int's bits does not see.
const half = 1 << (bits.UintSize / 2)

// input is one that can be; another for each n below 255 times 255.
func input(n int) api.Input {
	return api.Input{X: int8(n%255 - 127), Y: int8(n/255%255 - 127), B: uint8(n * 7)}
}

// noStick are inputs that no stick makes.
func noStick() []api.Input {
	return []api.Input{{X: -128}, {Y: -128, B: 1}, {X: -128, Y: -128}}
}

// alike tells whether a and b are the same in all parts.
func alike(a, b api.State) bool {
	return a.Game.Frame == b.Game.Frame && a.Game.Dice == b.Game.Dice && a.Game.Ships == b.Game.Ships &&
		slices.Equal(a.Game.Shots, b.Game.Shots) && a.Roster == b.Roster
}

// joins is an event in which a peer takes a slot.
func joins(slot, gen, peer int) api.Event {
	return api.Event{Kind: api.Join, Slot: slot, Gen: gen, Peer: peer}
}

// leaves is an event in which a peer gives a slot.
func leaves(slot, gen, peer int) api.Event {
	return api.Event{Kind: api.Leave, Slot: slot, Gen: gen, Peer: peer}
}

// with is an entry with these events and inputs, by slots.
func with(frame int, events []api.Event, does map[int]api.Input) api.Entry {
	e := api.Entry{Frame: frame, Events: events}
	for slot, in := range does {
		e.Inputs[slot] = in
	}
	return e
}

// three is a state at some frame: peers 3, 4 and 5 have slots 0, 1 and 6, each for the
// first time; slot 2 was given twice, and nobody has it.
func three(frame int) api.State {
	s := fold.Start("rollback")
	s.Game.Frame = frame
	for slot, peer := range map[int]int{0: 3, 1: 4, 6: 5} {
		s.Roster.Seats[slot] = api.Seat{Peer: peer, Gen: 1}
		s.Game.Ships[slot] = api.Ship{On: true, X: int32(slot) * api.One, Y: int32(slot) * api.One, Score: slot}
	}
	s.Roster.Seats[2].Gen = 2
	s.Roster.Version = 7
	s.Game.Shots = []api.Shot{{Owner: 1, X: 9, Left: 20}, {Owner: 0, Y: 9, Left: 4}}
	return s
}

// goes is a state behind entries.
func goes(t *testing.T, s api.State, l ...api.Entry) api.State {
	t.Helper()
	s, code := fold.Run(s, l)
	if code != api.OK {
		t.Fatalf("%+v: %d", l, code)
	}
	return s
}

// guessed is a state behind vectors.
func guessed(t *testing.T, s api.State, l []vector) api.State {
	t.Helper()
	for _, v := range l {
		s = goes(t, s, api.Entry{Frame: s.Game.Frame, Inputs: v})
	}
	return s
}

// record is what promises 16.1 to 16.3 tell of a Core: it keeps what is confirmed, how
// far is shown, what is known of each slot, and what each did last.
type record struct {
	confirmed api.State
	shown     int
	known     [api.Slots]map[int]api.Input
	last      vector
}

// begin is what promise 16.1 tells of New.
func begin(s api.State) record {
	r := record{confirmed: s, shown: s.Game.Frame}
	for slot := range r.known {
		r.known[slot] = map[int]api.Input{}
	}
	return r
}

// input is what promise 16.1 tells of Input.
func (r *record) input(slot, gen, frame int, in api.Input) bool {
	first := r.confirmed.Game.Frame
	if slot < 0 || slot > 7 || in.X == -128 || in.Y == -128 || frame < first || frame > first+63 {
		return false
	}
	seat := r.confirmed.Roster.Seats[slot]
	if _, is := r.known[slot][frame]; is || seat.Peer == -1 || seat.Gen != gen {
		return false
	}
	r.known[slot][frame] = in
	return true
}

// advance is what promise 16.2 tells of Advance.
func (r *record) advance() int {
	switch r.shown {
	case r.confirmed.Game.Frame + 8:
		return api.ErrStall
	case api.MaxFrame:
		return api.ErrEnd
	}
	r.shown++
	return api.OK
}

// confirm is what promise 16.3 tells of Confirm.
func (r *record) confirm(e api.Entry) int {
	next, code := fold.Apply(r.confirmed, e)
	if code != api.OK {
		return code
	}
	r.confirmed, r.last = next, e.Inputs
	for slot := range r.known {
		delete(r.known[slot], e.Frame)
	}
	for _, event := range e.Events {
		clear(r.known[event.Slot])
	}
	r.shown = max(r.shown, next.Game.Frame)
	return api.OK
}

// guess is what promise 16.3 tells of Guess: of who is there what is known, or what was last.
func (r *record) guess() []vector {
	var all []vector
	does := r.last
	for frame := r.confirmed.Game.Frame; frame < r.shown; frame++ {
		for slot, seat := range r.confirmed.Roster.Seats {
			if in, is := r.known[slot][frame]; is {
				does[slot] = in
			}
			if seat.Peer == -1 {
				does[slot] = api.Input{}
			}
		}
		all = append(all, does)
	}
	return all
}

// pair is a Core, and what it should be.
type pair struct {
	c    *Core
	want record
}

// newPair is a core of s, which can be.
func newPair(t *testing.T, s api.State) *pair {
	t.Helper()
	p := &pair{want: begin(s)}
	p.want.confirmed.Game.Shots = slices.Clone(s.Game.Shots)
	room := append(slices.Clone(s.Game.Shots), make([]api.Shot, 5)...)
	before := slices.Clone(room)
	s.Game.Shots = room[:len(s.Game.Shots)]
	if p.c = New(s); p.c == nil || !slices.Equal(room, before) {
		t.Fatalf("%+v of %+v", p.c, s)
	}
	scrawl(s) // it is no part of what is kept
	p.check(t)
	return p
}

// scrawl writes what no shot is in all of a state's list, and behind it.
func scrawl(s api.State) {
	list := s.Game.Shots[:cap(s.Game.Shots)]
	for i := range list {
		list[i] = api.Shot{Owner: -9, X: -9, Y: -9, VX: -9, VY: -9, Left: -9}
	}
}

// input does Input with both, and fails if they don't answer alike.
func (p *pair) input(t *testing.T, slot, gen, frame int, in api.Input) bool {
	t.Helper()
	want := p.want.input(slot, gen, frame, in)
	if got := p.c.Input(slot, gen, frame, in); got != want {
		t.Fatalf("%d is confirmed: slot %d, gen %d, frame %d, %v: %t", p.want.confirmed.Game.Frame, slot, gen, frame, in, got)
	}
	p.check(t)
	return want
}

// advance does Advance with both, and fails if they don't answer alike.
func (p *pair) advance(t *testing.T) int {
	t.Helper()
	want := p.want.advance()
	if got := p.c.Advance(); got != want {
		t.Fatalf("%d is confirmed, %d is shown: %d; want %d", p.want.confirmed.Game.Frame, p.want.shown, got, want)
	}
	p.check(t)
	return want
}

// ahead does Advance so often, and fails if it stalls.
func (p *pair) ahead(t *testing.T, many int) {
	t.Helper()
	for range many {
		if code := p.advance(t); code != api.OK {
			t.Fatal(code)
		}
	}
}

// confirm does Confirm with both, and fails if they don't answer alike.
func (p *pair) confirm(t *testing.T, e api.Entry) int {
	t.Helper()
	want := p.want.confirm(e)
	room := append(slices.Clone(e.Events), make([]api.Event, 5)...)
	before := slices.Clone(room)
	e.Events = room[:len(e.Events)]
	if got := p.c.Confirm(e); got != want || !slices.Equal(room, before) {
		t.Fatalf("%d is confirmed, %+v: %d; want %d", p.want.confirmed.Game.Frame, e, got, want)
	}
	clear(room)
	p.check(t)
	return want
}

// check fails unless what is to be seen of both is alike, also when it is asked again,
// and whatever is done with what is answered.
func (p *pair) check(t *testing.T) {
	t.Helper()
	guess := p.want.guess()
	shown := guessed(t, p.want.confirmed, guess)
	for range 2 {
		if got := p.c.Guess(); !slices.Equal(got, guess) {
			t.Fatalf("%d is confirmed, %d is shown: guesses %v; want %v", p.want.confirmed.Game.Frame, p.want.shown, got, guess)
		} else {
			clear(got[:cap(got)])
		}
		if got := p.c.Confirmed(); !alike(got, p.want.confirmed) {
			t.Fatalf("%+v is confirmed; want %+v", got, p.want.confirmed)
		} else {
			scrawl(got)
		}
		if got := p.c.Shown(); !alike(got, shown) {
			t.Fatalf("%+v is shown; want %+v", got, shown)
		} else {
			scrawl(got)
		}
	}
}

// Promises 16.1 to 16.3: as the document tells them, by the numbers of a hand.
func TestByHand(t *testing.T) {
	a, b, d := api.Input{X: 127}, api.Input{Y: -50}, api.Input{B: 1}
	c := New(three(10))
	stand := func(confirmed int, guess ...vector) {
		t.Helper()
		first, last := c.Confirmed().Game.Frame, c.Shown().Game.Frame
		if first != confirmed || last != confirmed+len(guess) || !slices.Equal(c.Guess(), guess) {
			t.Errorf("%d is confirmed, %d is shown: %v; want %v", first, last, c.Guess(), guess)
		}
		if !alike(c.Shown(), guessed(t, c.Confirmed(), guess)) {
			t.Errorf("%+v is shown", c.Shown())
		}
	}
	say := func(got, want any) {
		t.Helper()
		if got != want {
			t.Error(got)
		}
	}
	stand(10)
	say(c.Input(0, 1, 10, a), true)
	say(c.Input(1, 1, 12, b), true) // ahead of what is shown
	stand(10)
	say(c.Advance(), 0)
	say(c.Advance(), 0)
	say(c.Advance(), 0)
	stand(10, vector{0: a}, vector{0: a}, vector{0: a, 1: b})
	say(c.Input(0, 1, 12, d), true) // late
	stand(10, vector{0: a}, vector{0: a}, vector{0: d, 1: b})
	say(c.Input(6, 1, 10, b), true) // later still
	stand(10, vector{0: a, 6: b}, vector{0: a, 6: b}, vector{0: d, 1: b, 6: b})
	e := with(10, []api.Event{joins(2, 3, 9)}, map[int]api.Input{0: b, 1: d, 2: a}) // what was is not what was guessed
	say(c.Confirm(e), 0)
	stand(11, vector{0: b, 1: d, 2: a}, vector{0: d, 1: b, 2: a})
	say(c.Confirm(e), api.ErrArg)
	stand(11, vector{0: b, 1: d, 2: a}, vector{0: d, 1: b, 2: a})
	say(c.Input(2, 3, 11, b), true)
	stand(11, vector{0: b, 1: d, 2: b}, vector{0: d, 1: b, 2: b})
	say(c.Confirm(with(11, []api.Event{leaves(0, 1, 3)}, map[int]api.Input{1: a})), 0)
	stand(12, vector{1: b}) // nobody is in slot 0; slot 2 did nothing last
	say(c.Confirm(with(12, []api.Event{joins(0, 2, 3)}, nil)), 0)
	stand(13)
	say(c.Confirm(with(13, nil, map[int]api.Input{0: a})), 0) // beyond what was shown
	stand(14)
	say(c.Advance(), 0)
	stand(14, vector{0: a})
}

// Promise 16.1: New: of all that can be, and of nothing else.
func TestNew(t *testing.T) {
	for _, frame := range []int{0, 1, 9, 1000, api.MaxFrame - 9, api.MaxFrame - 1, api.MaxFrame} {
		newPair(t, three(frame))
		s := fold.Start("nobody")
		s.Game.Frame = frame
		newPair(t, s)
	}
	for _, frame := range []int{-1, math.MinInt, math.MaxInt, api.MaxFrame + 1, 2 * api.MaxFrame, half} {
		if New(three(frame)) != nil {
			t.Error(frame)
		}
	}
	for way, spoil := range []func(*api.State){
		func(s *api.State) { *s = api.State{} },
		func(s *api.State) { s.Game.Ships[5].On = true },
		func(s *api.State) { s.Game.Ships[1] = api.Ship{} },
		func(s *api.State) { s.Game.Ships[0].X = api.Side },
		func(s *api.State) { s.Game.Shots[1].Left = 0 },
		func(s *api.State) { s.Game.Shots = slices.Repeat([]api.Shot{{Left: 1}}, api.MaxShots+1) },
		func(s *api.State) { s.Roster.Seats[0].Peer = -1 },
		func(s *api.State) { s.Roster.Seats[0].Gen = 0 },
		func(s *api.State) { s.Roster.Seats[0].Peer = 4 },
		func(s *api.State) { s.Roster.Version = -1 },
	} {
		s := three(3)
		spoil(&s)
		if New(s) != nil {
			t.Error("spoilt in way", way)
		}
	}
}

// Promise 16.1: of who begins nothing was done last, whatever the ships do.
func TestNothingLast(t *testing.T) {
	p := newPair(t, three(40))
	p.ahead(t, 8)
	for _, v := range p.c.Guess() {
		if v != (vector{}) {
			t.Error(v)
		}
	}
}

// Promise 16.1: Input: of who has a slot, in that time, and of nobody else.
func TestWho(t *testing.T) {
	p := newPair(t, three(20))
	p.ahead(t, 4)
	n := 0
	for _, slot := range []int{0, 1, 2, 3, 4, 5, 6, 7, 8, -1, -8, 9, 15, 256, half, half + 1, math.MaxInt, math.MinInt} {
		for _, gen := range []int{0, 2, 3, -1, 4, 1 + half, 1 - half, 1 + 1<<16, 1 + 1<<8, api.MaxGen, math.MaxInt, math.MinInt, 1} {
			n++
			there := slot == 0 || slot == 1 || slot == 6
			if p.input(t, slot, gen, 22, input(n)) != (there && gen == 1) {
				t.Errorf("slot %d, gen %d", slot, gen)
			}
		}
	}
}

// Promise 16.1: Input: nothing of a frame that was, nor of one 64 or more beyond the
// confirmed one; nor what no stick makes.
func TestWhen(t *testing.T) {
	for _, first := range []int{0, 7, 300, api.MaxFrame - 40, api.MaxFrame} {
		for ahead := range 9 {
			p := newPair(t, three(first))
			p.ahead(t, min(ahead, api.MaxFrame-first))
			for _, frame := range []int{first - 1, first - 8, first - 64, -1, math.MinInt, math.MaxInt, first + 64, first + 65,
				first + half, first - half, first + 128, first + 1<<16} {
				if p.input(t, 0, 1, frame, input(9)) {
					t.Errorf("frame %d: %d is confirmed", frame, first)
				}
			}
			for n := range 64 {
				for _, in := range noStick() {
					if p.input(t, 1, 1, first+n, in) {
						t.Error(in)
					}
				}
				if !p.input(t, 1, 1, first+63-n, input(n)) {
					t.Errorf("frame %d: %d is confirmed", first+63-n, first)
				}
				if p.input(t, 1, 1, first+63-n, input(n)) || p.input(t, 1, 1, first+63-n, input(n+1)) {
					t.Errorf("frame %d comes twice", first+63-n)
				}
			}
		}
	}
}

// Promise 16.1: what was said of no slot of that time is nothing: it may be said later.
func TestRefused(t *testing.T) {
	p := newPair(t, three(0))
	p.ahead(t, 3)
	p.input(t, 2, 3, 2, input(1)) // it joins in frame 0
	p.input(t, 0, 2, 2, input(2))
	p.input(t, 1, 1, 64, input(3))
	p.confirm(t, with(0, []api.Event{joins(2, 3, 8)}, nil))
	if !p.input(t, 2, 3, 2, input(4)) || !p.input(t, 0, 1, 2, input(5)) || !p.input(t, 1, 1, 64, input(6)) {
		t.Error("refused again")
	}
}

// Promise 16.1: what comes late changes what is shown from its frame on, up to the next one
// that is known; what comes of a frame that is not shown changes nothing yet.
func TestLate(t *testing.T) {
	for ahead := range 9 {
		for frame := 30; frame < 42; frame++ {
			for next := frame + 1; next < 42; next++ {
				p := newPair(t, three(30))
				p.ahead(t, ahead)
				p.input(t, 6, 1, next, input(next))
				p.input(t, 6, 1, frame, input(frame))
				for n, v := range p.c.Guess() {
					want := vector{}
					if at := 30 + n; at >= next {
						want[6] = input(next)
					} else if at >= frame {
						want[6] = input(frame)
					}
					if v != want {
						t.Fatalf("%d and %d are known: at %d %v", frame, next, 30+n, v)
					}
				}
				p.ahead(t, 8-ahead)
			}
		}
	}
}

// Promise 16.2: nine times Advance: the ninth is ErrStall, and nothing changes, however often;
// what is confirmed makes room for one more.
func TestStall(t *testing.T) {
	p := newPair(t, three(5))
	for frame := 5; frame < 40; frame++ {
		for p.want.shown < frame+8 {
			p.ahead(t, 1)
		}
		for range 3 {
			if code := p.advance(t); code != api.ErrStall {
				t.Fatal(code)
			}
		}
		p.input(t, 1, 1, frame+8, input(frame))
		p.input(t, 0, 1, frame+7, input(frame))
		if code := p.advance(t); code != api.ErrStall {
			t.Fatal(code)
		}
		p.confirm(t, with(frame, nil, map[int]api.Input{0: input(3 * frame)}))
	}
	if New(fold.Start("nobody")).Advance() != api.OK {
		t.Error("nobody is there: no frame goes on")
	}
}

// Promise 16.2: at a session's end there is no frame to go on by; a stall is told first.
func TestEnd(t *testing.T) {
	for back := range 12 {
		p := newPair(t, three(api.MaxFrame-back))
		p.ahead(t, min(back, 8))
		want := api.ErrEnd
		if back >= 8 {
			want = api.ErrStall
		}
		for range 3 {
			if code := p.advance(t); code != want {
				t.Fatalf("%d ahead of the end: %d", back, code)
			}
		}
		for frame := api.MaxFrame - back; frame < api.MaxFrame; frame++ {
			p.input(t, 0, 1, frame, input(frame))
			if code := p.confirm(t, with(frame, nil, map[int]api.Input{1: input(frame)})); code != api.OK {
				t.Fatal(code)
			}
			p.advance(t)
		}
		if code := p.advance(t); code != api.ErrEnd {
			t.Fatal(code)
		}
		for _, frame := range []int{api.MaxFrame - 1, api.MaxFrame, api.MaxFrame + 1, 0} {
			if code := p.confirm(t, api.Entry{Frame: frame}); code != api.ErrArg {
				t.Fatal(code)
			}
		}
	}
}

// wrong are entries that can't be confirmed behind three(frame).
func wrong(frame int) []api.Entry {
	all := []api.Entry{
		with(frame, []api.Event{joins(0, 2, 9)}, nil),                 // it is had
		with(frame, []api.Event{joins(2, 2, 9)}, nil),                 // it is number 3 then
		with(frame, []api.Event{joins(2, 4, 9)}, nil),                 //
		with(frame, []api.Event{joins(3, 1, 3)}, nil),                 // the peer has a slot
		with(frame, []api.Event{joins(3, 1, api.MaxPeers)}, nil),      // no peer
		with(frame, []api.Event{joins(3, 1, -1)}, nil),                //
		with(frame, []api.Event{joins(8, 1, 9)}, nil),                 // no slot
		with(frame, []api.Event{joins(-1, 1, 9)}, nil),                //
		with(frame, []api.Event{leaves(2, 2, 3)}, nil),                // nobody has it
		with(frame, []api.Event{leaves(0, 2, 3)}, nil),                // in another time
		with(frame, []api.Event{leaves(0, 1, 4)}, nil),                // another peer
		with(frame, []api.Event{leaves(8, 1, 4)}, nil),                // no slot
		with(frame, []api.Event{{Slot: 3, Gen: 1, Peer: 9}}, nil),     // no such kind
		with(frame, []api.Event{joins(3, 1, 9), joins(2, 3, 8)}, nil), // not in order
		with(frame, []api.Event{joins(2, 3, 9), leaves(0, 1, 3)}, nil),
		with(frame, []api.Event{leaves(0, 1, 3), leaves(0, 1, 3)}, nil),
		with(frame, []api.Event{leaves(0, 1, 3), leaves(1, 2, 4)}, nil), // the second one is wrong
		with(frame, nil, map[int]api.Input{2: {B: 1}}),                  // nobody is there
		with(frame, []api.Event{leaves(0, 1, 3)}, map[int]api.Input{0: {B: 1}}),
	}
	for _, in := range noStick() {
		all = append(all, with(frame, nil, map[int]api.Input{0: in}))
	}
	for _, other := range []int{frame - 1, frame + 1, frame + 8, frame + half, -1, math.MinInt, math.MaxInt} {
		all = append(all, with(other, nil, nil))
	}
	return all
}

// Promise 16.3: an entry that can't be changes nothing, whatever is shown and known.
func TestConfirmWrong(t *testing.T) {
	for _, frame := range []int{0, 50, api.MaxFrame - 9} {
		for ahead := range 9 {
			p := newPair(t, three(frame))
			p.ahead(t, ahead)
			p.input(t, 0, 1, frame+2, input(8))
			p.input(t, 6, 1, frame, input(9))
			for _, e := range wrong(frame) {
				if code := p.confirm(t, e); code != api.ErrArg {
					t.Fatalf("%+v: %d", e, code)
				}
			}
			p.ahead(t, 8-ahead)
			if code := p.confirm(t, with(frame, nil, nil)); code != api.OK {
				t.Fatal(code)
			}
			if p.input(t, 0, 1, frame+2, input(8)) {
				t.Fatal("it was known")
			}
		}
	}
}

// Promise 16.3: what is confirmed of a frame is what it was, and not what was known of it; it is
// what the slot did last, until more is known.
func TestConfirmed(t *testing.T) {
	for ahead := range 9 {
		p := newPair(t, three(70))
		p.ahead(t, ahead)
		for frame := 70; frame < 90; frame++ {
			p.input(t, 0, 1, frame, input(frame))
			p.input(t, 1, 1, frame+3, input(2*frame))
			e := with(frame, nil, map[int]api.Input{0: input(3 * frame), 6: input(4 * frame)})
			if code := p.confirm(t, e); code != api.OK {
				t.Fatal(code)
			}
			if p.advance(t) == api.OK && frame > 73 {
				if v := p.c.Guess()[0]; v != (vector{0: input(3 * frame), 1: input(2 * (frame - 2)), 6: input(4 * frame)}) {
					t.Fatalf("%d is confirmed: %v", frame, v)
				}
			}
		}
	}
}

// Promise 16.3: what is shown does not go back by what is confirmed: it stays as far ahead
// as it was, or is what is confirmed.
func TestShownStays(t *testing.T) {
	for ahead := range 9 {
		p := newPair(t, three(12))
		p.ahead(t, ahead)
		for n := range 12 {
			p.confirm(t, with(12+n, nil, map[int]api.Input{0: input(n)}))
			if got, want := p.c.Shown().Game.Frame, max(12+ahead, 13+n); got != want {
				t.Fatalf("%d is shown; want %d", got, want)
			}
			if got, want := len(p.c.Guess()), max(0, ahead-n-1); got != want {
				t.Fatalf("%d guesses; want %d", got, want)
			}
		}
	}
}

// Promise 16.3: who leaves is gone from what is shown, with all that was known of the slot; who
// comes begins anew, from the next frame on, and did last what the entry says.
func TestEvents(t *testing.T) {
	for _, events := range [][]api.Event{
		{leaves(0, 1, 3)},
		{joins(2, 3, 9)},
		{joins(7, 1, 9)},
		{leaves(0, 1, 3), joins(0, 2, 9)},
		{leaves(0, 1, 3), joins(0, 2, 3)},
		{leaves(0, 1, 3), joins(5, 1, 3)},
		{leaves(0, 1, 3), leaves(1, 1, 4), leaves(6, 1, 5)},
		{leaves(0, 1, 3), leaves(6, 1, 5), joins(0, 2, 5), joins(6, 2, 3), joins(7, 1, 11)},
		{joins(2, 3, 0), joins(3, 1, 1), joins(4, 1, 2), joins(5, 1, 6), joins(7, 1, 7)},
	} {
		for ahead := range 9 {
			for frame := 100; frame < 104; frame++ { // of those ahead nobody comes or goes
				p := newPair(t, three(100))
				for n := 100; n < 110; n++ {
					p.input(t, 0, 1, n, input(n))
					p.input(t, 6, 1, n, input(2*n))
				}
				p.ahead(t, ahead)
				for n := 100; n < frame; n++ {
					p.confirm(t, with(n, nil, map[int]api.Input{1: input(n)}))
				}
				e := with(frame, events, nil)
				s := goes(t, p.want.confirmed, e)
				for slot, seat := range s.Roster.Seats {
					if seat.Peer != -1 && slot != 1 {
						e.Inputs[slot] = input(7*frame + slot)
					}
				}
				if code := p.confirm(t, e); code != api.OK {
					t.Fatalf("%+v: %d", e, code)
				}
				p.turned(t, e)
			}
		}
	}
}

// turned goes on behind an entry with events: in each of the slots new inputs are taken, of each
// frame, of who has it now, and none of who had it.
func (p *pair) turned(t *testing.T, e api.Entry) {
	t.Helper()
	p.ahead(t, 1)
	if got := p.c.Shown().Roster; got != p.want.confirmed.Roster {
		t.Fatalf("%+v", got)
	}
	for _, event := range e.Events {
		seat := p.want.confirmed.Roster.Seats[event.Slot]
		for frame := e.Frame; frame < e.Frame+66; frame++ {
			for gen := seat.Gen - 1; gen <= seat.Gen+1; gen++ {
				want := seat.Peer != -1 && gen == seat.Gen && frame > e.Frame && frame < e.Frame+65 && p.want.known[event.Slot][frame] == (api.Input{})
				if got := p.input(t, event.Slot, gen, frame, input(frame+gen)); got != want {
					t.Fatalf("%+v: gen %d, frame %d: %t", event, gen, frame, got)
				}
			}
		}
	}
	p.confirm(t, with(e.Frame+1, nil, nil))
	p.ahead(t, 1)
}

// Promise 16.3: a slot that somebody else takes or gives leaves the others as they were.
func TestOthersStay(t *testing.T) {
	p := newPair(t, three(0))
	p.input(t, 1, 1, 4, input(5))
	p.input(t, 6, 1, 2, input(6))
	p.ahead(t, 8)
	p.confirm(t, with(0, []api.Event{leaves(0, 1, 3), joins(2, 3, 7)}, map[int]api.Input{1: input(7)}))
	guess := p.c.Guess()
	for n, v := range guess {
		want := vector{1: input(7)}
		if n >= 1 {
			want[6] = input(6)
		}
		if n >= 3 {
			want[1] = input(5)
		}
		if v != want {
			t.Errorf("at %d: %v; want %v", 1+n, v, want)
		}
	}
}

// Promises 16.1 to 16.3: of nobody all answers are nothing; so are those of a Core that is no New's.
func TestNobody(t *testing.T) {
	for name, c := range map[string]*Core{"nil": nil, "bare": {}} {
		for _, n := range []int{0, 1, -1, 8, math.MaxInt, math.MinInt} {
			if c.Input(n, 0, 0, api.Input{}) || c.Input(0, n, 0, api.Input{}) || c.Input(0, 0, n, api.Input{B: 1}) || c.Input(1, 1, n, api.Input{}) {
				t.Error(name, "Input", n)
			}
			if code := c.Confirm(with(n, nil, nil)); code != api.ErrState {
				t.Error(name, "Confirm", n, code)
			}
		}
		if c.Confirm(with(0, []api.Event{joins(0, 1, 0)}, nil)) != api.ErrState || c.Advance() != api.ErrState {
			t.Error(name, "goes on")
		}
		if !alike(c.Confirmed(), api.State{}) || !alike(c.Shown(), api.State{}) || len(c.Guess()) != 0 {
			t.Error(name, c.Confirmed(), c.Shown(), c.Guess())
		}
	}
}

// Rule 2: two cores have nothing in common, also if they are handed the same.
func TestApart(t *testing.T) {
	s := three(0)
	p, q := newPair(t, s), newPair(t, s)
	for frame := range 50 {
		p.input(t, 0, 1, frame+2, input(frame))
		q.input(t, 0, 1, frame+1, input(2*frame))
		p.advance(t)
		if frame%3 != 0 {
			q.advance(t)
		}
		e := with(frame, nil, map[int]api.Input{1: input(frame)})
		p.confirm(t, e)
		e.Inputs[1].B++
		q.confirm(t, e)
		p.check(t)
		q.check(t)
	}
}

// Rule 5: an empty list is as none.
func TestEmptyLists(t *testing.T) {
	s := three(0)
	for _, shots := range [][]api.Shot{nil, {}} {
		for _, events := range [][]api.Event{nil, {}} {
			s.Game.Shots = shots
			p := newPair(t, s)
			p.ahead(t, 2)
			if code := p.confirm(t, with(0, events, nil)); code != api.OK {
				t.Fatal(code)
			}
		}
	}
}

// anyFrame is often one that is near, and now and then any.
func anyFrame(c chance, p *pair) int {
	if c.IntN(20) == 0 {
		return int(c.Uint64())
	}
	return p.want.confirmed.Game.Frame - 2 + c.IntN(14)*(1+c.IntN(6))
}

// anyEntry is one that could be behind what is confirmed, and often was guessed; now and then
// one that can't be.
func anyEntry(c chance, p *pair) api.Entry {
	e := api.Entry{Frame: p.want.confirmed.Game.Frame, Inputs: p.want.last}
	if guess := p.want.guess(); len(guess) > 0 {
		e.Inputs = guess[0]
	}
	var seats [api.Slots]api.Seat
	e.Events, seats = anyEvents(c, p.want.confirmed.Roster.Seats)
	for slot, seat := range seats {
		if seat.Peer == -1 {
			e.Inputs[slot] = api.Input{}
		} else if c.IntN(8) == 0 {
			e.Inputs[slot] = input(c.IntN(255 * 255))
		}
	}
	switch c.IntN(60) {
	case 0:
		e.Frame += c.IntN(5) - 2
	case 1:
		e.Inputs[c.IntN(8)] = input(c.IntN(255 * 255))
	case 2:
		e.Inputs[c.IntN(8)].X = -128
	case 3:
		e.Events = append(e.Events, joins(c.IntN(9)-1, c.IntN(3), c.IntN(13)))
	}
	return e
}

// anyEvents is who goes and who comes, where seats are had so; and how they are had then.
func anyEvents(c chance, seats [api.Slots]api.Seat) (events []api.Event, behind [api.Slots]api.Seat) {
	for slot, seat := range seats {
		if seat.Peer != -1 && c.IntN(30) == 0 {
			events = append(events, leaves(slot, seat.Gen, seat.Peer))
			seats[slot].Peer = -1
		}
	}
	for slot, seat := range seats {
		peer := c.IntN(api.MaxPeers)
		has := slices.ContainsFunc(seats[:], func(other api.Seat) bool { return other.Peer == peer })
		if seat.Peer == -1 && !has && c.IntN(20) == 0 {
			events = append(events, joins(slot, seat.Gen+1, peer))
			seats[slot] = api.Seat{Peer: peer, Gen: seat.Gen + 1}
		}
	}
	return events, seats
}

// play does with both what c throws, and holds them against each other; it counts in seen what
// Advance, Confirm and Input answer.
func play(t *testing.T, c chance, p *pair, steps int, seen map[[2]int]int) {
	t.Helper()
	for range steps {
		switch c.IntN(8) {
		case 0, 1:
			seen[[2]int{0, p.advance(t)}]++
		case 2, 3:
			seen[[2]int{1, p.confirm(t, anyEntry(c, p))}]++
		case 4:
			p.input(t, c.IntN(10)-1, c.IntN(5)-1, anyFrame(c, p), input(c.IntN(255*255)))
		default:
			slot := c.IntN(8)
			frame, late := anyFrame(c, p), 0
			if frame < p.want.shown {
				late = 1
			}
			if p.input(t, slot, p.want.confirmed.Roster.Seats[slot].Gen, frame, input(c.IntN(255*255))) {
				seen[[2]int{2, late}]++
			}
		}
	}
}

// Promises 16.1 to 16.3: whatever comes.
func TestAny(t *testing.T) {
	c := rand.New(rand.NewPCG(16, 1))
	seen := map[[2]int]int{}
	for _, frame := range []int{0, 0, 0, 1, 500, 70_000, api.MaxFrame - 300, api.MaxFrame - 30, api.MaxFrame - 3, api.MaxFrame} {
		play(t, c, newPair(t, three(frame)), 2000, seen)
	}
	for _, what := range [][2]int{{0, api.OK}, {0, api.ErrStall}, {0, api.ErrEnd}, {1, api.OK}, {1, api.ErrArg}, {2, 0}, {2, 1}} {
		if seen[what] < 50 {
			t.Errorf("%v was seen %d times", what, seen[what])
		}
	}
}

// FuzzAll: whatever comes, by bytes: each two are a call.
func FuzzAll(f *testing.F) {
	f.Add(0, []byte{0, 0, 1, 9, 2, 7, 0, 0, 3, 1, 4, 200})
	f.Add(api.MaxFrame-2, []byte{0, 0, 0, 0, 0, 0, 2, 5})
	f.Add(-1, []byte{0, 0})
	f.Fuzz(func(t *testing.T, from int, calls []byte) {
		if from < 0 || from > api.MaxFrame {
			if New(three(from)) != nil {
				t.Fatal(from)
			}
			return
		}
		p := newPair(t, three(from))
		for n := 0; n+1 < len(calls) && n < 200; n += 2 {
			slot, more := int(calls[n]>>4)-1, calls[n+1]
			frame := p.want.confirmed.Game.Frame + int(int8(more))/2
			switch calls[n] % 4 {
			case 0:
				p.advance(t)
			case 1:
				p.confirm(t, anyEntry(rand.New(rand.NewPCG(uint64(calls[n]), uint64(more))), p))
			default:
				p.input(t, slot, int(calls[n]>>2&3), frame, input(n*int(more)))
			}
		}
	})
}
