package ring

import (
	"math/rand/v2"
	"testing"

	"ceilidh/api"
	"ceilidh/fold"
)

// story is a host's log, and the states ahead of its entries and behind the last one:
// peers come and go, and each does for a while the same.
func story(t *testing.T, frames int) ([]api.Entry, []api.State) {
	t.Helper()
	log, states := make([]api.Entry, frames), []api.State{fold.Start("story")}
	for frame := range log {
		s, e := states[frame], &log[frame]
		e.Frame = frame
		for slot, seat := range s.Roster.Seats {
			there := seat.Peer != -1
			if turn := (frame + 17*slot) % 200; there && turn == 150 {
				there = false
				e.Events = append(e.Events, api.Event{Kind: api.Leave, Slot: slot, Gen: seat.Gen, Peer: seat.Peer})
			} else if !there && turn == 20 {
				there = true
				e.Events = append(e.Events, api.Event{Kind: api.Join, Slot: slot, Gen: seat.Gen + 1, Peer: slot + 2})
			}
			if there {
				n := frame / (7 + slot) * (slot + 3)
				e.Inputs[slot] = api.Input{X: int8(n * 37 % 127), Y: int8(-n * 11 % 127), B: uint8(n)}
			}
		}
		next, code := fold.Apply(s, *e)
		if code != api.OK {
			t.Fatalf("%+v: %d", e, code)
		}
		states = append(states, next)
	}
	return log, states
}

// player is a peer: the first state of its ring is confirmed, the others are guesses.
type player struct {
	r     *Ring
	last  [api.Slots]api.Input // what was confirmed last
	right int                  // guesses that were right
	wrong int
}

// guess is what goes on from s, if everybody does what was confirmed last.
func (p *player) guess(t *testing.T, s api.State) api.State {
	t.Helper()
	e := api.Entry{Frame: s.Game.Frame, Inputs: p.last}
	for slot, seat := range s.Roster.Seats {
		if seat.Peer == -1 {
			e.Inputs[slot] = api.Input{}
		}
	}
	next, code := fold.Apply(s, e)
	if code != api.OK {
		t.Fatalf("%+v: %d", e, code)
	}
	return next
}

// advance goes ahead by a frame; it tells whether it does, or stalls.
func (p *player) advance(t *testing.T) bool {
	t.Helper()
	s, _ := p.r.At(p.r.Last())
	return p.r.Push(p.guess(t, s))
}

// confirm goes on by what was, and back to that, if it was guessed otherwise.
func (p *player) confirm(t *testing.T, e api.Entry) {
	t.Helper()
	s, _ := p.r.At(e.Frame)
	next, code := fold.Apply(s, e)
	if code != api.OK {
		t.Fatalf("%+v: %d", e, code)
	}
	p.last = e.Inputs
	shown := p.r.Last()
	if guessed, is := p.r.At(e.Frame + 1); is && fold.Same(guessed, next) {
		p.right++
	} else {
		p.wrong++
		if !p.r.Cut(e.Frame) || !p.r.Push(next) {
			t.Fatalf("no way back to %d", e.Frame)
		}
	}
	if !p.r.Drop(e.Frame + 1) {
		t.Fatalf("no way on from %d", e.Frame)
	}
	p.r.Cut(e.Frame + 1) // what was guessed from there on is guessed anew
	for p.r.Last() < shown {
		if !p.advance(t) {
			t.Fatalf("no way ahead from %d", p.r.Last())
		}
	}
}

// check fails unless what is kept is what was confirmed, and guesses, and no more.
func (p *player) check(t *testing.T, s api.State) {
	t.Helper()
	first, last := s.Game.Frame, p.r.Last()
	if p.r.First() != first || last > first+api.Window || p.r.Len() != last-first+1 {
		t.Fatalf("%d from %d to %d; %d is confirmed", p.r.Len(), p.r.First(), last, first)
	}
	for frame := first; frame <= last; frame++ {
		if got, is := p.r.At(frame); !is || !alike(got, s) {
			t.Fatalf("%d is confirmed, at %d: %+v, %t; want %+v", first, frame, got, is, s)
		}
		s = p.guess(t, s)
	}
	for _, frame := range []int{first - 9, first - 1, last + 1, last + 9} {
		if _, is := p.r.At(frame); is {
			t.Fatalf("%d is kept: %d is confirmed, %d is shown", frame, first, last)
		}
	}
}

// Promise 15.2, T3: a peer that goes ahead by guesses and hears late what was has all that
// it may go back to, and no more: what it shows is what it confirmed, and at most W frames
// of guesses; at the limit it stalls, and nothing changes.
func TestGuesses(t *testing.T) {
	const frames = 1500
	log, states := story(t, frames)
	for round := range uint64(4) {
		c := rand.New(rand.NewPCG(15, round))
		p, heard, stalls := &player{r: New(states[0])}, 0, 0
		for heard < frames {
			for range c.IntN(12) {
				want := p.r.Len() < 9
				if p.advance(t) != want {
					t.Fatalf("%d ahead: %t", p.r.Len()-1, !want)
				}
				if !want {
					stalls++
				}
				p.check(t, states[heard])
			}
			for range min(c.IntN(12), frames-heard) {
				p.confirm(t, log[heard])
				heard++
				p.check(t, states[heard])
			}
		}
		if p.right < 50 || p.wrong < 50 || stalls < 50 {
			t.Errorf("%d guesses were right, %d wrong; %d stalls", p.right, p.wrong, stalls)
		}
	}
}

// Promise 15.2, T3: at the limit nothing changes, however often it is tried; what is
// confirmed makes room for as much again.
func TestStall(t *testing.T) {
	log, states := story(t, 200)
	p := &player{r: New(states[0])}
	for heard := range 200 {
		for p.advance(t) {
		}
		if p.r.Last() != heard+api.Window {
			t.Fatalf("%d is confirmed, %d is shown", heard, p.r.Last())
		}
		for range 20 {
			if p.advance(t) {
				t.Fatalf("%d is confirmed, %d is shown", heard, p.r.Last())
			}
		}
		p.check(t, states[heard])
		p.confirm(t, log[heard])
	}
	p.check(t, states[200])
}
