package link

import (
	"math/rand/v2"
	"slices"
	"testing"

	"ceilidh/api"
)

// gram is a datagram: what goes with each one, which one it is of all that its
// side sent, and a thing that is to come over (none at 0).
type gram struct {
	s, ack    uint16
	seen      uint32
	id, thing int
}

// side is one of two ends, with things that it brings over: it sends each again
// until the other end tells of one of the datagrams that it went by.
type side struct {
	p     *pair
	to    *side
	way   []gram          // what is on its way here
	went  map[uint16]gram // what was sent by a number last
	fresh map[uint16]int  // which datagram was new by a number last
	todo  map[int]int     // things that were not told of: when each was sent last
	got   map[int]bool    // things that came
	last  int             // the last thing that it has
}

// twoSides are two that send each other.
func twoSides() [2]*side {
	var sides [2]*side
	for i := range sides {
		sides[i] = &side{p: newPair(0), went: map[uint16]gram{}, fresh: map[uint16]int{}, todo: map[int]int{}, got: map[int]bool{}}
	}
	sides[0].to, sides[1].to = sides[1], sides[0]
	return sides
}

// send sends a thing, by a number of its own.
func (x *side) send(t *testing.T, now, thing int) {
	t.Helper()
	ack, seen := x.p.want.came.Last()
	g := gram{x.p.stamp(t), ack, seen, x.p.want.sent, thing}
	x.went[g.s] = g
	x.to.way = append(x.to.way, g)
	if thing != 0 {
		x.todo[thing] = now
	}
}

// more sends the next things, but not too many that were not told of.
func (x *side) more(t *testing.T, now, many int) {
	t.Helper()
	for range many {
		if len(x.todo) < 30 {
			x.last++
			x.send(t, now, x.last)
		}
	}
}

// again sends again what is open for a while.
func (x *side) again(t *testing.T, now int) {
	t.Helper()
	for _, s := range x.p.l.Open() {
		thing := x.went[s].thing
		if at, is := x.todo[thing]; is && now-at > 8 {
			x.send(t, now, thing)
		}
	}
}

// take takes a datagram, and fails if it tells of one that did not come, or if it
// is new a second time.
func (x *side) take(t *testing.T, now int, g gram) {
	t.Helper()
	before := x.p.l.Open()
	if x.p.hear(t, now, g.s, g.ack, g.seen) {
		if x.fresh[g.s] == g.id {
			t.Fatalf("%+v is new twice", g)
		}
		x.fresh[g.s] = g.id
		x.got[g.thing] = true
	}
	open := x.p.l.Open()
	for _, s := range before {
		if slices.Contains(open, s) {
			continue
		}
		if x.to.fresh[s] != x.went[s].id {
			t.Fatalf("%+v tells of %d, which did not come", g, s)
		}
		delete(x.todo, x.went[s].thing)
	}
}

// deliver takes some of what is on the way, in any order; some of it is lost, and
// some comes again.
func (x *side) deliver(t *testing.T, by chance, now int) {
	t.Helper()
	for len(x.way) > 0 && by.IntN(5) > 0 {
		at := by.IntN(min(len(x.way), 12))
		what := by.IntN(4)
		if what != 0 {
			x.take(t, now, x.way[at])
		}
		if what != 1 {
			x.way = slices.Delete(x.way, at, at+1)
		}
	}
	if len(x.way) > 50 {
		x.way = x.way[20:]
	}
}

// settle goes on over a way that is good, until all is told of.
func settle(t *testing.T, sides [2]*side, now int) {
	t.Helper()
	for end := now + 100; len(sides[0].todo)+len(sides[1].todo) > 0; now++ {
		if now > end {
			t.Fatalf("never told of: %d, %d", sides[0].todo, sides[1].todo)
		}
		for _, x := range sides {
			x.again(t, now)
			x.send(t, now, 0)
			for _, g := range x.way {
				x.take(t, now, g)
			}
			x.way = nil
		}
	}
}

// Promise 13.2 and T4: what was not told as heard is sent again, over a way that
// loses, doubles and delays: all of it comes, nothing is told of that did not come,
// and nothing is new twice; for more than a round of numbers.
func TestSentAgain(t *testing.T) {
	for seed := range uint64(2) {
		by := rand.New(rand.NewPCG(130, seed))
		sides := twoSides()
		now := 0
		for ; sides[0].p.want.sent < round+5000; now++ {
			for _, x := range sides {
				x.more(t, now, by.IntN(3))
				x.again(t, now)
				x.deliver(t, by, now)
			}
		}
		settle(t, sides, now)
		for i, x := range sides {
			for thing := 1; thing <= x.last; thing++ {
				if !x.to.got[thing] {
					t.Fatalf("seed %d: %d of side %d did not come", seed, thing, i)
				}
			}
			if sent := x.p.want.sent; x.last < sent/10 || x.last > sent*9/10 {
				t.Errorf("seed %d: %d things by %d datagrams", seed, x.last, sent)
			}
		}
	}
}

// Promise 13.2: each of 64 that were sent is lost by itself: it alone is open when
// all that came was told of, however often that is told, until it is sent again.
func TestOneLost(t *testing.T) {
	for lost := uint16(1); lost <= 64; lost++ {
		a, b := New(0), New(0)
		for range 64 {
			if s, ack, seen := a.Stamp(); s != lost {
				b.Hear(1, s, ack, seen)
			}
			s, ack, seen := b.Stamp()
			a.Hear(1, s, ack, seen)
			a.Hear(1, s, ack, seen)
		}
		if open := a.Open(); !slices.Equal(open, []uint16{lost}) {
			t.Fatalf("%d was lost: %d are open", lost, open)
		}
		came := b.Hear(2, lost, 0, 0)
		s, ack, seen := b.Stamp()
		a.Hear(2, s, ack, seen)
		if open := a.Open(); came != (len(open) == 0) || came != (lost >= 32) {
			t.Errorf("%d comes late, new %t: %d are open", lost, came, open)
		}
	}
}

// T4: what comes twice, or late, opens nothing again, tells of nothing else, and
// is no word of a later time.
func TestTwiceAndLate(t *testing.T) {
	a, b := New(0), New(0)
	var words []gram
	for now := range 60 {
		s, ack, seen := a.Stamp()
		if now%3 > 0 {
			b.Hear(now, s, ack, seen)
		}
		s, ack, seen = b.Stamp()
		words = append(words, gram{s: s, ack: ack, seen: seen, id: now}) // told at that time
		if now%4 > 0 {
			a.Hear(now, s, ack, seen)
		}
	}
	open := a.Open()
	for pass := range 3 {
		for _, g := range words[27:] { // the others are too far behind for anybody to know
			late := pass == 0 && g.id%4 == 0
			if is := a.Hear(g.id, g.s, g.ack, g.seen); is != late {
				t.Errorf("%d came again, or late %t: %t", g.s, late, is)
			}
			if got := a.Open(); !slices.Equal(got, open) || a.Quiet(70) != 70-59 {
				t.Errorf("%d came again: open %d, quiet %d", g.s, got, a.Quiet(70))
			}
		}
	}
	if _, ack, seen := a.Stamp(); ack != 60 || seen != 1<<32-1 {
		t.Errorf("what came: %d, %b", ack, seen)
	}
}

// T4: an end of a new life begins anew, and what is told of numbers that only the
// elder one stamped changes nothing of what is open.
func TestNewLife(t *testing.T) {
	elder, b := New(0), New(0)
	for now := range 500 {
		s, ack, seen := elder.Stamp()
		b.Hear(now, s, ack, seen)
	}
	_, ack, seen := b.Stamp()
	young := New(500)
	for range 5 {
		young.Stamp()
	}
	young.Hear(501, 1, ack, seen)
	if open := young.Open(); !slices.Equal(open, []uint16{1, 2, 3, 4, 5}) {
		t.Errorf("open: %d", open)
	}
	if open := elder.Open(); len(open) != 64 || open[63] != 500 || elder.Quiet(501) != 501 {
		t.Errorf("the elder one: open %d, quiet %d", open, elder.Quiet(501))
	}
}

// T5: who says a word in each round, be it an old one, is never quiet for long; who
// says none is, behind Silence ticks, longer than that, until the next word.
func TestSilence(t *testing.T) {
	const talk = 300
	a, b := New(0), New(0)
	var first gram
	for now := 1; now <= talk; now++ {
		s, ack, seen := b.Stamp()
		if now == 1 {
			first = gram{s: s, ack: ack, seen: seen}
		}
		if quiet := a.Quiet(now); quiet != 1 {
			t.Fatalf("quiet at %d: %d", now, quiet)
		}
		if now%2 == 0 {
			s, ack, seen = first.s, first.ack, first.seen
		}
		if is := a.Hear(now, s, ack, seen); is != (now%2 == 1) || a.Quiet(now) != 0 {
			t.Fatalf("at %d %d came: %t, quiet %d", now, s, is, a.Quiet(now))
		}
	}
	for tick := range 2 * api.Silence {
		if quiet := a.Quiet(talk + tick); quiet != tick {
			t.Errorf("%d ticks without a word: %d", tick, quiet)
		}
	}
	a.Hear(talk-5, 0, 0, 0) // this word was heard, and told late
	if quiet := a.Quiet(talk + api.Silence + 1); quiet <= api.Silence {
		t.Errorf("quiet: %d", quiet)
	}
	a.Hear(talk+api.Silence+1, 0, 0, 0)
	if quiet := a.Quiet(talk + api.Silence + 1); quiet != 0 {
		t.Errorf("quiet behind a word: %d", quiet)
	}
}
