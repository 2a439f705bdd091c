package queue

import (
	"math/rand/v2"
	"testing"

	"ceilidh/api"
)

// did is what a slot does in a frame, for a while the same: what a player does.
func did(frame int) api.Input {
	if frame < 0 {
		return api.Input{}
	}
	n := frame / (3 + frame%2)
	return api.Input{X: int8(n * 37 % 127), Y: int8(-n * 11 % 127), B: uint8(n)}
}

// word is what is on its way: what a slot did in a frame.
type word struct{ frame, due int }

// Promise 14.2: T3: what a peer shows of a slot is what is known of it, or what it did last,
// over a way that loses, doubles and delays. What is shown of a frame of which something is
// known is what the slot did, and a guess is what it did in the last frame ahead of which
// the word came.
func TestGuess(t *testing.T) {
	c := rand.New(rand.NewPCG(14, 2))
	for round := range 40 {
		p, came := newPair(0, api.Input{}), map[int]bool{}
		var way []word
		for now := range 300 {
			for n := range 1 + c.IntN(3) { // the last few are told again, since words are lost
				if frame := now - n*c.IntN(4); frame >= 0 && c.IntN(100) < 60 {
					way = append(way, word{frame, now + c.IntN(12)}, word{frame, now + c.IntN(2+round)})
				}
			}
			var left []word
			for _, w := range way {
				if w.due > now {
					left = append(left, w)
				} else if p.put(t, w.frame, did(w.frame)) {
					came[w.frame] = true
				}
			}
			way = left
			if now > api.Window {
				p.done(t, did(now-api.Window-1))
			}
			shown(t, p.q, came)
			p.check(t)
		}
		if len(came) < 100 {
			t.Fatalf("only %d came", len(came))
		}
	}
}

// shown fails unless q shows the frames ahead of it by what came, and by what was done.
func shown(t *testing.T, q *Queue, came map[int]bool) {
	t.Helper()
	last := did(q.From() - 1) // that is confirmed
	for frame := q.From(); frame < q.From()+api.Window; frame++ {
		if came[frame] {
			last = did(frame)
		}
		if in, is := q.At(frame); in != last || is != came[frame] {
			t.Fatalf("from %d on, at %d: %v, %t; want %v, %t", q.From(), frame, in, is, last, came[frame])
		}
	}
}

// Promise 14.2: what is shown is not of the order in which it came, nor of what came twice.
func TestOrder(t *testing.T) {
	c := rand.New(rand.NewPCG(14, 3))
	for range 200 {
		frames := c.Perm(64)[:c.IntN(65)]
		one, other := newPair(9, input(1)), newPair(9, input(1))
		for _, n := range frames {
			one.put(t, 9+n, did(n))
		}
		for _, i := range c.Perm(2 * len(frames)) {
			n := frames[i%len(frames)]
			other.put(t, 9+n, did(n))
		}
		one.check(t)
		other.check(t)
		for frame := range 80 {
			in, is := one.q.At(frame)
			if in2, is2 := other.q.At(frame); in != in2 || is != is2 {
				t.Fatalf("at %d: %v, %t and %v, %t", frame, in, is, in2, is2)
			}
		}
		if one.q.Known() != other.q.Known() {
			t.Fatal(one.q.Known(), other.q.Known())
		}
	}
}

// Promise 14.2: what is not known is as it was: a guess is only ever set right by what comes,
// and what comes of a frame leaves all ahead of it as it was, and all that is known.
func TestSetRight(t *testing.T) {
	c := rand.New(rand.NewPCG(14, 4))
	for range 200 {
		q := New(0, input(c.IntN(999)))
		for range 40 {
			var before [70]api.Input
			var known [70]bool
			for frame := range before {
				before[frame], known[frame] = q.At(frame)
			}
			at, in := c.IntN(64), input(c.IntN(999))
			is, behind := q.Put(at, in), false
			if is == known[at] {
				t.Fatalf("%d was %v: %t", at, in, is)
			}
			for frame := range before {
				want := before[frame]
				if frame > at && known[frame] {
					behind = true
				}
				if is && frame >= at && !behind {
					want = in
				}
				got, now := q.At(frame)
				if got != want || now != (known[frame] || is && frame == at) {
					t.Fatalf("%d was %v: at %d %v, %t; want %v", at, in, frame, got, now, want)
				}
			}
		}
	}
}
