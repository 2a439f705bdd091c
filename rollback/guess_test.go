package rollback

import (
	"math/rand/v2"
	"slices"
	"testing"

	"ceilidh/api"
	"ceilidh/fold"
	"ceilidh/image"
)

// said is what a peer that has a slot with a gen gives for a frame: for a while the same.
func said(slot, gen, frame int) api.Input {
	n := frame / (5 + slot) * (slot + 3*gen)
	return api.Input{X: int8(n * 37 % 127), Y: int8(-n * 11 % 127), B: uint8(n)}
}

// story is a host's log, and the states ahead of its entries and behind the last one: peers come
// and go, slots are given again, and what one said did not always reach the host in time.
func story(t *testing.T, c chance, frames int) ([]api.Entry, []api.State) {
	t.Helper()
	log, states := make([]api.Entry, frames), []api.State{fold.Start("story")}
	for frame := range log {
		s, e := states[frame], &log[frame]
		e.Frame = frame
		for slot, seat := range s.Roster.Seats {
			there := seat.Peer != -1
			if turn := (frame + 17*slot) % 150; there && turn == 120 && slot != 0 {
				there = false
				e.Events = append(e.Events, leaves(slot, seat.Gen, seat.Peer))
			} else if !there && turn >= 20 && turn < 120 {
				there = true
				seat.Gen++
				e.Events = append(e.Events, joins(slot, seat.Gen, slot+2))
			}
			if there && (slot == 0 || c.IntN(5) > 0) {
				e.Inputs[slot] = said(slot, seat.Gen, frame)
			}
		}
		slices.SortFunc(e.Events, func(a, b api.Event) int { return (b.Kind-a.Kind)*api.Slots + a.Slot - b.Slot })
		states = append(states, goes(t, s, *e))
	}
	return log, states
}

// word is what is on its way: what a slot did in a frame.
type word struct{ slot, gen, frame, due int }

// player is a peer that plays in a slot, and hears the others and the host late.
type player struct {
	c     *Core
	slot  int
	mine  map[[2]int]bool // of which gens and frames it said something
	from  int             // the frame that it began with
	heard int             // entries of the log that it heard, or need not hear
	way   []word
}

// gen is the number of a slot's time, as the player knows it; 0, if nobody has it.
func (p *player) gen(slot int) int {
	if seat := p.c.Confirmed().Roster.Seats[slot]; seat.Peer != -1 {
		return seat.Gen
	}
	return 0
}

// goOn gives what it does in the frame that it shows, and goes on by that; it tells whether it does,
// or stalls.
func (p *player) goOn(t *testing.T) bool {
	t.Helper()
	before, frame := p.c.Shown(), p.c.Shown().Game.Frame
	if gen := p.gen(p.slot); gen > 0 && !p.mine[[2]int{gen, frame}] {
		if !p.c.Input(p.slot, gen, frame, said(p.slot, gen, frame)) {
			t.Fatalf("its own is not taken at %d", frame)
		}
		p.mine[[2]int{gen, frame}] = true
	}
	switch code := p.c.Advance(); code {
	case api.OK:
		return true
	case api.ErrStall:
		if !alike(p.c.Shown(), before) || frame != p.c.Confirmed().Game.Frame+api.Window {
			t.Fatalf("a stall at %d", frame)
		}
	default:
		t.Fatal(code)
	}
	return false
}

// hear takes what has come to it up to now of what others said, often twice, in any order.
func (p *player) hear(c chance, now int) {
	c.Shuffle(len(p.way), func(i, k int) { p.way[i], p.way[k] = p.way[k], p.way[i] })
	p.way = slices.DeleteFunc(p.way, func(w word) bool {
		if w.due <= now {
			p.c.Input(w.slot, w.gen, w.frame, said(w.slot, w.gen, w.frame))
		}
		return w.due <= now
	})
}

// check fails unless what it has confirmed is what the first entries of the log make (T1), and what
// it shows is that, and guesses (T3).
func (p *player) check(t *testing.T, log []api.Entry, states []api.State) {
	t.Helper()
	s, guess := p.c.Confirmed(), p.c.Guess()
	if s.Game.Frame != p.heard || !alike(s, states[p.heard]) {
		t.Fatalf("%d were heard: %+v is confirmed; want %+v", p.heard, s, states[p.heard])
	}
	if len(guess) > api.Window || !alike(p.c.Shown(), guessed(t, s, guess)) {
		t.Fatalf("%d is confirmed, by %v %+v is shown", p.heard, guess, p.c.Shown())
	}
	var last vector
	if p.heard > p.from {
		last = log[p.heard-1].Inputs
	}
	for n, v := range guess {
		for slot, in := range v {
			gen, frame := p.gen(slot), p.heard+n
			is := in == last[slot] || in == said(slot, gen, frame)
			if slot == p.slot && p.mine[[2]int{gen, frame}] {
				is = in == said(slot, gen, frame)
			}
			if gen == 0 {
				is = in == api.Input{}
			}
			if !is {
				t.Fatalf("%d is confirmed: slot %d, gen %d does %v at %d; it did %v", p.heard, slot, gen, in, frame, last[slot])
			}
		}
		last = v
	}
}

// words puts on its way to each, and now and then twice, what everybody does about now.
func words(c chance, now int, s api.State, players []*player) {
	for slot, seat := range s.Roster.Seats {
		for _, p := range players {
			for range c.IntN(3) {
				if seat.Peer != -1 && slot != p.slot {
					p.way = append(p.way, word{slot, seat.Gen, now - c.IntN(4), now + c.IntN(9)})
				}
			}
		}
	}
}

// Promise 16.4, T1, T3: peers that hear each other and the host late, twice, out of order, or not at
// all: what each has confirmed is what the log makes, and what it shows is that, and at most W
// frames of guesses. One of them comes late, with an image.
func TestPeers(t *testing.T) {
	const frames = 700
	for round := range uint64(5) {
		c := rand.New(rand.NewPCG(16, 4+round))
		log, states := story(t, c, frames)
		var players []*player
		for slot := range 4 {
			p := &player{c: New(states[0]), slot: slot, mine: map[[2]int]bool{}}
			if slot == 3 {
				b, _ := image.Put(states[150])
				s, _ := image.Get(b)
				p.c, p.from, p.heard = New(s), 150, 150
			}
			players = append(players, p)
		}
		stalls, behind := 0, 0
		for now := 0; now < frames+40; now++ {
			words(c, now, states[min(now, frames)], players)
			for _, p := range players {
				p.hear(c, now)
				p.check(t, log, states)
				if now >= p.from && !p.goOn(t) {
					stalls++
				}
				p.check(t, log, states)
				for p.heard < min(now, frames) && c.IntN(5) > 1 {
					if code := p.c.Confirm(log[p.heard]); code != api.OK {
						t.Fatalf("%+v: %d", log[p.heard], code)
					}
					p.heard++
					p.check(t, log, states)
				}
				behind = max(behind, now-p.heard)
			}
		}
		for _, p := range players {
			if p.heard != frames || len(p.mine) < 300 {
				t.Errorf("slot %d heard %d and said %d", p.slot, p.heard, len(p.mine))
			}
		}
		if stalls < 20 || behind < 5 {
			t.Errorf("%d stalls; %d behind", stalls, behind)
		}
	}
}

// Promise 16.4: what is shown hangs on what is confirmed, on what is known, and on how far is
// shown, and not on the order in which it came to that.
func TestOrder(t *testing.T) {
	c := rand.New(rand.NewPCG(16, 9))
	for range 300 {
		var words []word
		for range c.IntN(40) {
			slot := []int{0, 1, 6}[c.IntN(3)]
			words = append(words, word{slot: slot, gen: 1, frame: 20 + c.IntN(14)})
		}
		ahead := c.IntN(9)
		var cores [2]*Core
		for n := range cores {
			cores[n] = New(three(20))
			left := ahead
			for _, k := range c.Perm(len(words)) {
				for left > 0 && c.IntN(4) == 0 {
					cores[n].Advance()
					left--
				}
				cores[n].Input(words[k].slot, 1, words[k].frame, said(words[k].slot, 1, words[k].frame))
			}
			for range left {
				cores[n].Advance()
			}
		}
		if !alike(cores[0].Shown(), cores[1].Shown()) || !slices.Equal(cores[0].Guess(), cores[1].Guess()) {
			t.Fatalf("%v: %v and %v", words, cores[0].Guess(), cores[1].Guess())
		}
	}
}

// Promise 16.4: a peer that hears all in time guesses nothing wrong: what it shows ahead of the
// others is what will be confirmed, also who is hit.
func TestAllInTime(t *testing.T) {
	s := three(0)
	c, log := New(s), []api.Entry{}
	for frame := range 400 {
		e := with(frame, nil, nil)
		for _, slot := range []int{0, 1, 6} {
			e.Inputs[slot] = said(slot, 1, frame)
			if !c.Input(slot, 1, frame, e.Inputs[slot]) {
				t.Fatal(frame)
			}
		}
		log, s = append(log, e), goes(t, s, e)
		if code := c.Advance(); code != api.OK || !alike(c.Shown(), s) {
			t.Fatalf("at %d: %d, %+v; want %+v", frame, code, c.Shown(), s)
		}
		if old := frame - 7; old >= 0 && (c.Confirm(log[old]) != api.OK || !alike(c.Shown(), s)) {
			t.Fatalf("%d is confirmed: %+v; want %+v", old, c.Shown(), s)
		}
	}
	hits := 0
	for _, slot := range []int{0, 1, 6} {
		hits += s.Game.Ships[slot].Score - slot
	}
	if hits == 0 {
		t.Error("nobody was hit")
	}
}

// Promise 16.4, T1: what was guessed, however far and however wrong, leaves nothing in what is
// confirmed: two that guess otherwise have the same.
func TestGuessesLeaveNothing(t *testing.T) {
	c := rand.New(rand.NewPCG(16, 12))
	log, states := story(t, c, 400)
	wild, calm := New(states[0]), New(states[0])
	for frame, e := range log {
		for slot, seat := range wild.Confirmed().Roster.Seats {
			for n := range 9 {
				wild.Input(slot, seat.Gen, frame+n, input(c.IntN(255*255)))
			}
		}
		for range c.IntN(9) {
			wild.Advance()
		}
		if wild.Confirm(e) != api.OK || calm.Confirm(e) != api.OK {
			t.Fatalf("%+v", e)
		}
		if s := states[frame+1]; !alike(wild.Confirmed(), s) || !alike(calm.Confirmed(), s) || !alike(calm.Shown(), s) {
			t.Fatalf("%d: %+v and %+v; want %+v", frame+1, wild.Confirmed(), calm.Confirmed(), s)
		}
	}
}
