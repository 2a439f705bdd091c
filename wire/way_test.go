package wire_test

import (
	"math/rand/v2"
	"slices"
	"testing"

	"ceilidh/api"
	"ceilidh/entry"
	"ceilidh/fold"
	"ceilidh/image"
	"ceilidh/serial"
	"ceilidh/wire"
)

// way is a way between two ends that loses, doubles, delays and spoils.
type way struct {
	by      *rand.Rand
	on      [][]byte
	spoiled int
}

// send sends a datagram, or loses it; some go twice.
func (w *way) send(t *testing.T, m api.Msg) {
	b, code := wire.Put(m)
	if code != api.OK {
		t.Fatalf("%+v is not put: %d", m, code)
	}
	for range w.by.IntN(4) {
		w.on = append(w.on, slices.Clone(b))
	}
}

// come is one of what is on its way, whichever; some are spoilt: a byte is turned.
func (w *way) come(t *testing.T) (api.Msg, bool) {
	at := w.by.IntN(len(w.on))
	b := w.on[at]
	w.on = slices.Delete(w.on, at, at+1)
	bad := w.by.IntN(5) == 0
	if bad {
		b[w.by.IntN(len(b))] ^= byte(1 + w.by.IntN(255))
	}
	m, code := wire.Get(b)
	if bad && code != api.ErrSum || !bad && code != api.OK {
		t.Fatalf("%x, spoilt: %t; %d", b, bad, code)
	}
	if bad {
		w.spoiled++
	}
	return m, !bad
}

// hostLog is a log in which, by chance, somebody comes, and does something.
func hostLog(t *testing.T, seed string, size int, by *rand.Rand) []api.Entry {
	s := fold.Start(seed)
	var log []api.Entry
	for frame := range size {
		e := api.Entry{Frame: frame}
		if frame < 2*api.Slots && frame%2 == 0 {
			e.Events = []api.Event{{Kind: api.Join, Slot: frame / 2, Gen: 1, Peer: 11 - frame/2}}
		}
		for slot := range api.Slots {
			if 2*slot <= frame && by.IntN(2) == 0 {
				e.Inputs[slot] = api.Input{X: int8(by.IntN(255) - 127), Y: int8(by.IntN(255) - 127), B: uint8(by.IntN(2))}
			}
		}
		next, code := fold.Apply(s, e)
		if code != api.OK {
			t.Fatalf("%+v: %d", e, code)
		}
		s, log = next, append(log, e)
	}
	return log
}

// Promise 12.4, T4: a log comes over such a way: what is spoilt is told and does
// nothing, what comes twice or late does no harm, and at every time what is there
// is a beginning of the log.
func TestLogOverAWay(t *testing.T) {
	by := rand.New(rand.NewPCG(12, 5))
	log := hostLog(t, "a way", 400, by)
	there, back := way{by: by}, way{by: by}
	heard := serial.New()
	peer := fold.Start("a way")
	var got []api.Entry
	known, number, steps := 0, uint16(65500), 0
	for ; known < len(log); steps++ {
		if steps == 100_000 {
			t.Fatalf("%d of %d are known", known, len(log))
		}
		front := log[known:min(known+1+by.IntN(8), len(log))]
		number++
		there.send(t, api.Msg{Kind: api.MLog, From: 11, Serial: number, Frame: known, Log: front})
		for len(there.on) > 5 {
			m, ok := there.come(t)
			if !ok || !heard.Note(m.Serial) {
				continue
			}
			for _, e := range m.Log {
				if e.Frame == peer.Game.Frame {
					next, code := fold.Apply(peer, e)
					if code != api.OK {
						t.Fatalf("%+v: %d", e, code)
					}
					peer, got = next, append(got, e)
				}
			}
			if !entry.Front(got, log) {
				t.Fatalf("%d entries are no beginning", len(got))
			}
		}
		ack, seen := heard.Last()
		back.send(t, api.Msg{Kind: api.MAck, Ack: ack, Seen: seen, Frame: peer.Game.Frame})
		for len(back.on) > 5 {
			if m, ok := back.come(t); ok {
				known = max(known, m.Frame)
			}
		}
	}
	want, _ := fold.Run(fold.Start("a way"), log)
	if !fold.Same(peer, want) || there.spoiled < 20 || back.spoiled < 20 {
		t.Errorf("%d, %d are spoilt; %+v, not\n%+v", there.spoiled, back.spoiled, peer, want)
	}
}

// Promise 12.4: an image goes by pieces over such a way, and comes as it was.
func TestImageOverAWay(t *testing.T) {
	by := rand.New(rand.NewPCG(12, 6))
	s, _ := fold.Run(fold.Start("pieces"), hostLog(t, "pieces", 200, by))
	b, code := image.Put(s)
	if code != api.OK {
		t.Fatal(code)
	}
	pieces := slices.Collect(slices.Chunk(b, api.Piece))
	got := make([][]byte, len(pieces))
	there := way{by: by}
	for round := 0; slices.ContainsFunc(got, func(b []byte) bool { return b == nil }); round++ {
		if round == 1000 {
			t.Fatal("not all pieces came")
		}
		for n, piece := range pieces {
			there.send(t, api.Msg{Kind: api.MChunk, N: n, Of: len(pieces), Sum: image.Sum(b), Frame: s.Game.Frame, Data: piece})
		}
		for len(there.on) > 0 {
			if m, ok := there.come(t); ok {
				if m.Of != len(pieces) || m.Sum != image.Sum(b) || m.Frame != s.Game.Frame {
					t.Fatalf("%+v", m)
				}
				got[m.N] = m.Data
			}
		}
	}
	back, code := image.Get(slices.Concat(got...))
	if code != api.OK || !fold.Same(back, s) {
		t.Errorf("%+v, %d, not\n%+v", back, code, s)
	}
}
