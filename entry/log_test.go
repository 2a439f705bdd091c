package entry_test

import (
	"math/rand/v2"
	"testing"

	"ceilidh/api"
	"ceilidh/entry"
	"ceilidh/fold"
	"ceilidh/image"
	"ceilidh/roster"
)

// next is an entry that may follow s: by chance somebody goes, another comes, and
// some of those who are there do something.
func next(s api.State, by *rand.Rand) api.Entry {
	e := api.Entry{Frame: s.Game.Frame}
	r := s.Roster
	offer := func(event api.Event) {
		if after, code := roster.Apply(r, event); code == api.OK {
			r = after
			e.Events = append(e.Events, event)
		}
	}
	goes, comes := by.IntN(api.Slots*4), by.IntN(api.Slots)
	if goes < api.Slots {
		offer(api.Event{Kind: api.Leave, Slot: goes, Gen: r.Seats[goes].Gen, Peer: r.Seats[goes].Peer})
	}
	offer(api.Event{Kind: api.Join, Slot: comes, Gen: r.Seats[comes].Gen + 1, Peer: by.IntN(api.MaxPeers)})
	for slot, seat := range r.Seats {
		if seat.Peer >= 0 && by.IntN(3) > 0 {
			e.Inputs[slot] = api.Input{X: int8(by.IntN(255) - 127), Y: int8(by.IntN(255) - 127), B: uint8(by.IntN(2))}
		}
	}
	return e
}

// Promise 9.3, T1: a log that goes through the wire, entry by entry, is at every
// frame a beginning of the host's, and makes what that one makes.
func TestLogThroughTheWire(t *testing.T) {
	by := rand.New(rand.NewPCG(9, 3))
	host := fold.Start("a log")
	peer := host
	var said, heard []api.Entry
	for frame := range 500 {
		e := next(host, by)
		b, code := entry.Put(e)
		if code != api.OK {
			t.Fatalf("frame %d: %+v: %d", frame, e, code)
		}
		if host, code = fold.Apply(host, e); code != api.OK {
			t.Fatalf("frame %d: %+v may not be: %d", frame, e, code)
		}
		said = append(said, e)
		if !entry.Front(heard, said) || entry.Front(said, heard) {
			t.Fatalf("frame %d: what was heard is no beginning", frame)
		}
		got, code := entry.Get(b)
		if code != api.OK {
			t.Fatalf("frame %d: %x: %d", frame, b, code)
		}
		heard = append(heard, got)
		if peer, code = fold.Apply(peer, got); code != api.OK || !fold.Same(peer, host) || image.Of(peer) != image.Of(host) {
			t.Fatalf("frame %d: %+v, %d, not\n%+v", frame, peer, code, host)
		}
	}
	if !entry.Front(heard, said) || !entry.Front(said, heard) {
		t.Error("what was heard is not what was said")
	}
	if host.Roster.Version < 100 {
		t.Errorf("too little went on: %+v", host.Roster)
	}
	again, code := fold.Run(fold.Start("a log"), heard)
	if code != api.OK || !fold.Same(again, host) {
		t.Errorf("all at once: %+v, %d", again, code)
	}
}
