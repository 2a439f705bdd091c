package fold

import (
	"math"
	"math/rand/v2"
	"slices"
	"sync"
	"testing"

	"ceilidh/api"
	"ceilidh/entry"
	"ceilidh/image"
)

// story is a log that is made by throws of its own, and by nothing of the
// program: now and then somebody goes, somebody comes, or does something else.
func story(seed uint64, frames int) []api.Entry {
	throw := func(n uint64) int {
		seed = seed*6364136223846793005 + 1442695040888963407
		return int((seed >> 32) * n >> 32)
	}
	var seats [api.Slots]api.Seat
	for slot := range seats {
		seats[slot].Peer = -1
	}
	var held [api.Slots]api.Input
	log := make([]api.Entry, frames)
	for frame := range log {
		e := &log[frame]
		for slot, seat := range seats {
			if seat.Peer != -1 && throw(300) == 0 {
				e.Events = append(e.Events, api.Event{Kind: 2, Slot: slot, Gen: seat.Gen, Peer: seat.Peer})
				seats[slot].Peer, held[slot] = -1, api.Input{}
			}
		}
		for slot, seat := range seats {
			if seat.Peer != -1 || throw(40) != 0 {
				continue
			}
			peer := throw(12)
			if !slices.ContainsFunc(seats[:], func(other api.Seat) bool { return other.Peer == peer }) {
				seats[slot] = api.Seat{Peer: peer, Gen: seat.Gen + 1}
				e.Events = append(e.Events, api.Event{Kind: 1, Slot: slot, Gen: seat.Gen + 1, Peer: peer})
			}
		}
		for slot, seat := range seats {
			if seat.Peer != -1 && throw(6) == 0 {
				held[slot] = api.Input{X: int8(throw(255) - 127), Y: int8(throw(255) - 127), B: uint8(throw(256))}
			}
		}
		e.Frame, e.Inputs = frame, held
	}
	return log
}

// Promise 10.3: a long log, as another program reckoned it, image by image.
func TestLongLog(t *testing.T) {
	const frames = 20_000
	log := story(10, frames)
	s, seen := Start("a long log"), uint64(0)
	for _, e := range log {
		var code int
		if s, code = Apply(s, e); code != api.OK {
			t.Fatalf("%+v: %d", e, code)
		}
		seen = seen*1099511628211 + image.Of(s)
	}
	if seen != 0xb64ae775205f4716 || s.Game.Dice != 0xc7ed3e08292ac53a || len(s.Game.Shots) != 10 || s.Roster.Version != 874 {
		t.Errorf("seen %#x, %+v", seen, s)
	}
	seats := [api.Slots]api.Seat{{Peer: -1, Gen: 50}, {Peer: 0, Gen: 49}, {Peer: 5, Gen: 59}, {Peer: 6, Gen: 53},
		{Peer: 11, Gen: 57}, {Peer: -1, Gen: 58}, {Peer: 7, Gen: 55}, {Peer: 3, Gen: 59}}
	if s.Roster.Seats != seats {
		t.Errorf("%+v", s.Roster)
	}
	for slot, score := range [api.Slots]int{0, 13, 0, 11, 18, 0, 4, 0} {
		if s.Game.Ships[slot].Score != score {
			t.Errorf("slot %d: %+v, not %d", slot, s.Game.Ships[slot], score)
		}
	}
	again, code := Run(Start("a long log"), log)
	if code != api.OK || image.Of(again) != 0x57630a32f4252f66 || !wantSame(again, s) {
		t.Errorf("all at once: %+v, %d", again, code)
	}
}

// A peer has confirmed states, frame by frame: it tells each of them.
type peer func(by chance, first api.State, log []api.Entry, tell func(api.State))

// piecewise hears some entries at a time.
func piecewise(by chance, s api.State, log []api.Entry, tell func(api.State)) {
	for len(log) > 0 {
		count := min(1+by.IntN(20), len(log))
		s, _ = Run(s, log[:count])
		log = log[count:]
		tell(s)
	}
}

// latecomer gets the image of some frame, and the entries from there on.
func latecomer(by chance, s api.State, log []api.Entry, tell func(api.State)) {
	from := by.IntN(len(log))
	s, _ = Run(s, log[:from])
	b, _ := image.Put(s)
	s, _ = image.Get(b)
	tell(s)
	piecewise(by, s, log[from:], tell)
}

// muddled hears entries as bytes, and out of order: twice, late, or too early.
func muddled(by chance, s api.State, log []api.Entry, tell func(api.State)) {
	for range 20 * len(log) {
		at := s.Game.Frame + by.IntN(5) - 2
		if at < 0 || at >= len(log) {
			continue
		}
		b, _ := entry.Put(log[at])
		e, _ := entry.Get(b)
		s, _ = Apply(s, e)
		tell(s)
	}
}

// guesser goes ahead by guesses: the others do what they did last. What was so
// is thrown away when the entry comes.
func guesser(by chance, s api.State, log []api.Entry, tell func(api.State)) {
	var last [api.Slots]api.Input
	for _, e := range log {
		shown := s
		for range by.IntN(api.Window + 1) {
			guess := api.Entry{Frame: shown.Game.Frame, Inputs: last}
			for slot, seat := range s.Roster.Seats {
				if seat.Peer == -1 {
					guess.Inputs[slot] = api.Input{}
				}
			}
			shown, _ = Apply(shown, guess)
		}
		s, _ = Apply(s, e)
		last = e.Inputs
		tell(s)
	}
}

// Promise 10.3, T1: whoever has confirmed a frame has what the first entries of
// the log make, however it came to that, and whoever reckons meanwhile; what
// it had ahead of that stays as it was.
func TestPeersAgree(t *testing.T) {
	const frames = 1000
	first, log := Start("T1"), story(1, frames)
	states := []api.State{first}
	var sums []uint64
	for frame, e := range log {
		s, code := Apply(states[frame], e)
		if code != api.OK {
			t.Fatalf("%+v: %d", e, code)
		}
		sums, states = append(sums, image.Of(states[frame])), append(states, s)
	}
	sums = append(sums, image.Of(states[frames]))
	if last := states[frames]; last.Roster.Version < 30 || len(last.Game.Shots) < 3 {
		t.Errorf("too little went on: %+v", last)
	}
	var peers sync.WaitGroup
	for kind, way := range []peer{piecewise, latecomer, muddled, guesser} {
		for n := range uint64(4) {
			peers.Go(func() {
				reached, differs := 0, -1
				way(rand.New(rand.NewPCG(n, 1)), first, log, func(s api.State) {
					reached = s.Game.Frame
					if differs < 0 && (image.Of(s) != sums[reached] || !Same(s, states[reached])) {
						differs = reached
					}
				})
				if differs >= 0 || reached != frames {
					t.Errorf("kind %d, peer %d: frame %d differs; it came to frame %d", kind, n, differs, reached)
				}
			})
		}
	}
	peers.Wait()
	for frame, s := range states {
		if image.Of(s) != sums[frame] {
			t.Errorf("frame %d isn't any more what it was", frame)
		}
	}
}

// Promises 10.2, 10.3: an entry that is missing, or comes twice, or in another's
// place: no state is made of such a log, wherever that is.
func TestLogsOutOfOrder(t *testing.T) {
	by := rand.New(rand.NewPCG(10, 2))
	first := Start("order")
	log := story(2, 300)
	for range 200 {
		at := by.IntN(len(log) - 1)
		to := at + 1 + by.IntN(len(log)-1-at)
		swapped := slices.Clone(log)
		swapped[at], swapped[to] = swapped[to], swapped[at]
		for what, list := range map[string][]api.Entry{
			"missing": slices.Delete(slices.Clone(log), at, at+1),
			"twice":   slices.Insert(slices.Clone(log), at, log[at]),
			"late":    slices.Insert(slices.Clone(log), to, log[at]),
			"swapped": swapped,
		} {
			if s, code := Run(first, list); code != api.ErrArg || !wantSame(s, first) {
				t.Fatalf("%s at %d, %d: %+v, %d", what, at, to, s, code)
			}
		}
	}
}

// Promises 10.1 to 10.3: a state and what may follow it, of which some part is
// anything.
func FuzzAll(f *testing.F) {
	f.Add(uint64(0), uint8(0), int64(0))
	f.Add(uint64(1), uint8(1), int64(-1))
	f.Add(uint64(2), uint8(4), int64(math.MaxInt64))
	f.Add(uint64(3), uint8(9), int64(math.MinInt64))
	f.Add(uint64(4), uint8(12), int64(99))
	f.Fuzz(func(t *testing.T, seed uint64, part uint8, v int64) {
		by := rand.New(rand.NewPCG(seed, 10))
		s := Start("fuzz")
		for range by.IntN(50) {
			var code int
			if s, code = holds(t, s, anyEntry(s, by)); code != api.OK {
				t.Fatalf("%+v: %d", s, code)
			}
		}
		e := anyEntry(s, by)
		bend(&s, &e, by, part, v)
		next, _ := holds(t, s, e)
		holds(t, next, anyEntry(next, by))
	})
}

// bend makes a part of s or of e v.
func bend(s *api.State, e *api.Entry, by chance, part uint8, v int64) {
	slot := by.IntN(api.Slots)
	event := &api.Event{}
	if len(e.Events) > 0 {
		event = &e.Events[by.IntN(len(e.Events))]
	}
	switch part % 14 {
	case 1:
		e.Frame = int(v)
	case 2:
		event.Kind = int(v)
	case 3:
		event.Slot = int(v)
	case 4:
		event.Gen = int(v)
	case 5:
		event.Peer = int(v)
	case 6:
		e.Inputs[slot] = api.Input{X: int8(v), Y: int8(v >> 8), B: uint8(v >> 16)}
	case 7:
		s.Game.Frame, e.Frame = int(v), int(v)
	case 8:
		s.Game.Ships[slot].On = !s.Game.Ships[slot].On
	case 9:
		s.Game.Ships[slot].VX = int32(v)
	case 10:
		s.Game.Shots = append(s.Game.Shots, api.Shot{Owner: int(v), Left: 1})
	case 11:
		s.Roster.Version = int(v)
	case 12:
		s.Roster.Seats[slot].Peer = int(v)
	case 13:
		s.Roster.Seats[slot].Gen = int(v)
	}
}
