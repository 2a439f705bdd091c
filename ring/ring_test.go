package ring

import (
	"math"
	"math/bits"
	"math/rand/v2"
	"runtime"
	"slices"
	"testing"
	"weak"

	"ceilidh/api"
	"ceilidh/fold"
)

type chance = *rand.Rand

// half is what a number with half of an int's bits does not see.
const half = 1 << (bits.UintSize / 2)

// alike tells whether a and b are the same in all parts.
func alike(a, b api.State) bool {
	return a.Game.Frame == b.Game.Frame && a.Game.Dice == b.Game.Dice && a.Game.Ships == b.Game.Ships &&
		slices.Equal(a.Game.Shots, b.Game.Shots) && a.Roster == b.Roster
}

// state is one that can be, if the frame is one of a session: the mark makes it another,
// also in who is there and in what flies.
func state(frame, mark int) api.State {
	s := fold.Start("ring")
	s.Game.Frame, s.Game.Dice = frame, uint64(mark)
	for slot := range api.Slots {
		if mark>>slot&1 == 1 {
			s.Roster.Seats[slot] = api.Seat{Peer: slot, Gen: 1 + mark%9}
			s.Game.Ships[slot] = api.Ship{On: true, X: int32(mark % api.Side), Score: mark % 100}
		}
	}
	for n := range mark % 7 {
		s.Game.Shots = append(s.Game.Shots, api.Shot{Owner: n, Y: int32(mark % 99), Left: 1 + mark%api.Life})
	}
	return s
}

// spoilt is state(frame, 36) with one part of it so that it can't be: there are 14 ways.
func spoilt(frame, way int) api.State {
	s := state(frame, 36)
	switch way {
	case 0:
		s.Game.Ships[0].On = true
	case 1:
		s.Game.Ships[2] = api.Ship{}
	case 2:
		s.Roster.Seats[5].Peer = -1
	case 3:
		s.Roster.Seats[1] = api.Seat{Peer: 9, Gen: 1}
	case 4:
		s.Roster.Seats[5].Peer = 2
	case 5:
		s.Roster.Seats[5].Peer = api.MaxPeers
	case 6:
		s.Roster.Seats[5].Gen = 0
	case 7:
		s.Roster.Seats[0].Gen = api.MaxGen + 1
	case 8:
		s.Roster.Version = -1
	case 9:
		s.Game.Ships[2].X = api.Side
	case 10:
		s.Game.Ships[2].VY = -api.Speed - 1
	case 11:
		s.Game.Shots[0].Owner = api.Slots
	case 12:
		s.Game.Shots[0].Left = 0
	case 13:
		s.Game.Shots = slices.Repeat([]api.Shot{{Left: 1}}, api.MaxShots+1)
	}
	return s
}

// record is what promise 15.1 tells of a Ring: it keeps all that were ever there, and
// from which frame to which they are there now.
type record struct {
	states      map[int]api.State
	first, last int
}

func (r *record) is(frame int) bool { return r.first <= frame && frame <= r.last }

// push is what promise 15.1 tells of Push.
func (r *record) push(s api.State) bool {
	if !fold.May(s) || s.Game.Frame != r.last+1 || r.last-r.first+1 >= 9 {
		return false
	}
	r.last++
	s.Game.Shots = slices.Clone(s.Game.Shots)
	r.states[r.last] = s
	return true
}

// pair is a Ring, and what it should be.
type pair struct {
	r    *Ring
	want record
}

// newPair is a ring of s alone, which can be.
func newPair(t *testing.T, s api.State) *pair {
	t.Helper()
	frame := s.Game.Frame
	p := &pair{want: record{map[int]api.State{frame: s}, frame, frame}}
	lend(t, s, func(s api.State) { p.r = New(s) })
	if p.r == nil {
		t.Fatalf("none of %+v", s)
	}
	p.check(t)
	return p
}

// lend hands s over with room behind its list, fails if anything is written there, and
// writes there itself, since what was handed in may be no part of what is kept.
func lend(t *testing.T, s api.State, to func(api.State)) {
	t.Helper()
	room := append(slices.Clone(s.Game.Shots), make([]api.Shot, 5)...)
	before := slices.Clone(room)
	s.Game.Shots = room[:len(s.Game.Shots)]
	to(s)
	if !slices.Equal(room, before) {
		t.Fatalf("%+v is written in", s)
	}
	scrawl(room)
}

// scrawl writes what no shot is in all of a list, and behind it.
func scrawl(list []api.Shot) {
	list = list[:cap(list)]
	for i := range list {
		list[i] = api.Shot{Owner: -9, X: -9, Y: -9, VX: -9, VY: -9, Left: -9}
	}
}

// push puts s in both, and fails if they don't answer alike.
func (p *pair) push(t *testing.T, s api.State) bool {
	t.Helper()
	got, want := false, p.want.push(s)
	lend(t, s, func(s api.State) { got = p.r.Push(s) })
	if got != want {
		t.Fatalf("from %d to %d, %+v: %t", p.want.first, p.want.last, s, got)
	}
	p.check(t)
	return got
}

// cut cuts both, and fails if they don't answer alike.
func (p *pair) cut(t *testing.T, frame int) {
	t.Helper()
	if got := p.r.Cut(frame); got != p.want.is(frame) {
		t.Fatalf("from %d to %d, Cut %d: %t", p.want.first, p.want.last, frame, got)
	} else if got {
		p.want.last = frame
	}
	p.check(t)
}

// drop drops of both, and fails if they don't answer alike.
func (p *pair) drop(t *testing.T, frame int) {
	t.Helper()
	if got := p.r.Drop(frame); got != p.want.is(frame) {
		t.Fatalf("from %d to %d, Drop %d: %t", p.want.first, p.want.last, frame, got)
	} else if got {
		p.want.first = frame
	}
	p.check(t)
}

// check fails unless what is to be seen of both is alike, also when it is asked again.
func (p *pair) check(t *testing.T) {
	t.Helper()
	first, last := p.want.first, p.want.last
	if p.r.First() != first || p.r.Last() != last || p.r.Len() != last-first+1 {
		t.Fatalf("%d from %d to %d; want from %d to %d", p.r.Len(), p.r.First(), p.r.Last(), first, last)
	}
	for frame := first - 3; frame <= last+3; frame++ {
		p.checkAt(t, frame, frame)
	}
	p.checkAt(t, 0, -1, math.MinInt, math.MaxInt, first+half, first-half, last+16)
}

// checkAt fails unless what is told of frames is what it should be.
func (p *pair) checkAt(t *testing.T, frames ...int) {
	t.Helper()
	for _, frame := range frames {
		s, is := p.r.At(frame)
		var want api.State
		if p.want.is(frame) {
			want = p.want.states[frame]
		}
		if is != p.want.is(frame) || !alike(s, want) {
			t.Fatalf("from %d to %d, at %d: %+v, %t; want %+v", p.want.first, p.want.last, frame, s, is, want)
		}
		scrawl(s.Game.Shots) // it is the caller's own
	}
}

// full is a ring of so many states, the first one of this frame.
func full(t *testing.T, frame, many int) *pair {
	t.Helper()
	p := newPair(t, state(frame, 301))
	for n := 1; n < many; n++ {
		if !p.push(t, state(frame+n, 301+n*53)) {
			t.Fatal("no room for", n)
		}
	}
	return p
}

// Promise 15.1: as the document tells it, by the numbers of a hand.
func TestByHand(t *testing.T) {
	r := New(state(7, 1))
	stand := func(first, last, many int) {
		t.Helper()
		if r.First() != first || r.Last() != last || r.Len() != many {
			t.Errorf("%d from %d to %d; want %d from %d to %d", r.Len(), r.First(), r.Last(), many, first, last)
		}
	}
	at := func(frame, mark int) {
		t.Helper()
		if s, is := r.At(frame); !is || !alike(s, state(frame, mark)) {
			t.Errorf("at %d: %+v, %t", frame, s, is)
		}
	}
	no := func(frames ...int) {
		t.Helper()
		for _, frame := range frames {
			if s, is := r.At(frame); is || !alike(s, api.State{}) {
				t.Errorf("at %d: %+v, %t", frame, s, is)
			}
		}
	}
	say := func(is, want bool) {
		t.Helper()
		if is != want {
			t.Error(is)
		}
	}
	stand(7, 7, 1)
	at(7, 1)
	no(6, 8, 0)
	say(r.Push(state(7, 2)), false)
	say(r.Push(state(6, 2)), false)
	say(r.Push(state(9, 2)), false)
	at(7, 1)
	say(r.Push(state(8, 2)), true)
	say(r.Push(state(9, 3)), true)
	stand(7, 9, 3)
	at(7, 1)
	at(8, 2)
	at(9, 3)
	no(6, 10)
	say(r.Cut(10), false)
	say(r.Cut(6), false)
	say(r.Drop(10), false)
	say(r.Drop(6), false)
	stand(7, 9, 3)
	say(r.Cut(8), true) // all behind it go
	stand(7, 8, 2)
	no(9)
	say(r.Push(state(9, 4)), true) // and another one comes there
	at(9, 4)
	say(r.Drop(8), true) // all ahead of it go
	stand(8, 9, 2)
	no(7)
	at(8, 2)
	say(r.Cut(7), false)
	say(r.Drop(7), false)
	for frame := 10; frame < 17; frame++ {
		say(r.Push(state(frame, frame)), true)
	}
	stand(8, 16, 9)
	say(r.Push(state(17, 0)), false) // there are 9
	at(16, 16)
	say(r.Drop(16), true)
	stand(16, 16, 1)
	say(r.Cut(16), true)
	say(r.Drop(16), true)
	stand(16, 16, 1)
	at(16, 16)
	say(r.Push(state(17, 0)), true)
	stand(16, 17, 2)
}

// Promise 15.1: New: of each frame of a session, and of no other.
func TestNew(t *testing.T) {
	for _, frame := range []int{0, 1, 8, 9, 1000, api.MaxFrame - 1, api.MaxFrame} {
		for mark := range 256 {
			newPair(t, state(frame, mark))
		}
	}
	for _, frame := range []int{-1, api.MaxFrame + 1, math.MinInt, math.MaxInt, 2 * api.MaxFrame, -api.MaxFrame} {
		if r := New(state(frame, 1)); r != nil {
			t.Errorf("frame %d: %+v", frame, r)
		}
	}
	if New(api.State{}) != nil {
		t.Error("nothing is a state")
	}
	for way := range 14 {
		if r := New(spoilt(5, way)); r != nil {
			t.Errorf("%d: %+v", way, r)
		}
	}
}

// Promise 15.1: Push: nothing but the frame behind the last one, and only what can be;
// with a false nothing changes.
func TestPush(t *testing.T) {
	for many := 1; many <= 9; many++ {
		for _, first := range []int{0, 3, 1 << 16, api.MaxFrame - 20} {
			p := full(t, first, many)
			last := first + many - 1
			for _, frame := range []int{first - 1, first, last - 1, last, last + 2, last + 3, last + 9, last + 10, 0, -1, 1,
				last + 1 + half, last + 1 + 1<<16, math.MaxInt, math.MinInt, api.MaxFrame} {
				if frame != last+1 && p.push(t, state(frame, 99)) {
					t.Fatalf("%d is behind %d", frame, last)
				}
			}
			for way := range 14 {
				if p.push(t, spoilt(last+1, way)) {
					t.Fatalf("%d: there are %d from %d on", way, many, first)
				}
			}
			if p.push(t, state(last+1, 99)) != (many < 9) {
				t.Fatalf("another one, behind %d from %d on", many, first)
			}
		}
	}
}

// Promise 15.1: at a session's end there is no frame behind the last one.
func TestEnd(t *testing.T) {
	for many := 1; many <= 9; many++ {
		p := full(t, api.MaxFrame-many+1, many)
		if p.push(t, state(api.MaxFrame+1, 1)) {
			t.Fatal("a frame behind the end")
		}
		p.cut(t, api.MaxFrame-many+1)
		p.drop(t, api.MaxFrame-many+1)
		for n := 1; n < many; n++ {
			if !p.push(t, state(api.MaxFrame-many+1+n, n)) {
				t.Fatal("another way to the end")
			}
		}
	}
}

// Promise 15.1: Cut and Drop, of each frame that is there and of those around, however many
// there are; and behind that it goes on.
func TestCutAndDrop(t *testing.T) {
	for many := 1; many <= 9; many++ {
		for _, first := range []int{0, 40} {
			for frame := first - 2; frame < first+many+2; frame++ {
				for _, way := range []func(*pair, *testing.T, int){(*pair).cut, (*pair).drop} {
					p := full(t, first, many)
					way(p, t, frame)
					for n := range 10 {
						p.push(t, state(p.want.last+1, 600+n))
					}
					if p.r.Len() != 9 {
						t.Fatalf("%d are there", p.r.Len())
					}
				}
			}
			p := full(t, first, many)
			for _, frame := range []int{math.MinInt, math.MaxInt, first + half, first - half, -1, api.MaxFrame} {
				p.cut(t, frame)
				p.drop(t, frame)
			}
		}
	}
}

// Promise 15.1: all pairs of a Cut and a Drop, in both orders.
func TestCutThenDrop(t *testing.T) {
	for one := range 9 {
		for other := range 9 {
			p, q := full(t, 20, 9), full(t, 20, 9)
			p.cut(t, 20+one)
			p.drop(t, 20+other)
			q.drop(t, 20+other)
			q.cut(t, 20+one)
			for n := range 3 {
				p.push(t, state(p.want.last+1, n))
				q.push(t, state(q.want.last+1, n+8))
			}
		}
	}
}

// Promise 15.1: of nil all answers are nothing. A Ring that is no New's has no last one
// that another could be behind.
func TestNobody(t *testing.T) {
	for name, r := range map[string]*Ring{"nil": nil, "bare": {}} {
		for _, frame := range []int{0, 1, -1, math.MaxInt, math.MinInt} {
			s, is := r.At(frame)
			if is || !alike(s, api.State{}) || r.Push(state(frame, 1)) || r.Cut(frame) || r.Drop(frame) {
				t.Error(name, frame, s, is)
			}
		}
		if r.Len() != 0 || r.First() != 0 || r.Last() != 0 {
			t.Error(name, r.Len(), r.First(), r.Last())
		}
	}
}

// Rule 2: two rings have nothing in common, also if they are handed the same, or what the
// other answers.
func TestApart(t *testing.T) {
	p, q := newPair(t, state(0, 6)), newPair(t, state(0, 6))
	s := state(1, 13)
	p.push(t, s)
	q.push(t, s)
	for frame := 1; frame < 60; frame++ {
		got, _ := q.r.At(frame)
		got.Game.Frame++
		p.push(t, got)
		got.Game.Dice++
		q.push(t, got)
		if frame%3 == 0 {
			p.drop(t, p.want.first+3)
		}
		q.drop(t, q.want.first+1)
		if frame%4 == 0 {
			p.cut(t, p.want.last-1)
			p.push(t, state(p.want.last+1, frame))
		}
		p.check(t)
		q.check(t)
	}
}

// Rule 5: an empty list of shots is as none.
func TestEmptyList(t *testing.T) {
	s := state(0, 14)
	for _, list := range [][]api.Shot{nil, {}, make([]api.Shot, 0, 9)} {
		s.Game.Shots = list
		p := newPair(t, s)
		next := s
		next.Game.Frame++
		p.push(t, next)
	}
}

// Promise 15.2: nothing is held of the lists that were handed in, also not if they are
// empty pieces of greater ones.
func TestKept(t *testing.T) {
	var r *Ring
	var held []weak.Pointer[api.Shot]
	for frame := range 9 {
		s := state(frame, 6)
		s.Game.Shots = slices.Repeat([]api.Shot{{Left: 1}}, 20)[:frame%2]
		held = append(held, weak.Make(&s.Game.Shots[:1][0]))
		if frame == 0 {
			r = New(s)
		} else if !r.Push(s) {
			t.Fatal(frame)
		}
	}
	runtime.GC()
	for frame, list := range held {
		if list.Value() != nil {
			t.Errorf("the list handed in at %d is held", frame)
		}
	}
	runtime.KeepAlive(r)
}

// Promise 15.2: what is cut or dropped is not held.
func TestLetGo(t *testing.T) {
	for n := range 9 {
		for _, way := range []func(*Ring, int) bool{(*Ring).Cut, (*Ring).Drop} {
			p := newPair(t, state(0, 6))
			for frame := 1; frame < 9; frame++ {
				p.r.Push(state(frame, 6))
			}
			var held [9]weak.Pointer[api.Shot]
			for frame := range held {
				held[frame] = weak.Make(&p.r.states[frame].Game.Shots[0])
			}
			way(p.r, n)
			runtime.GC()
			for frame, mine := range held {
				if _, is := p.r.At(frame); is != (mine.Value() != nil) {
					t.Errorf("at %d: it is there: %t, it is held: %t", frame, is, !is)
				}
			}
			if cap(p.r.states) > 9 {
				t.Errorf("there is room for %d", cap(p.r.states))
			}
		}
	}
}

// anyFrame is often one that is there, or close to one, and now and then any.
func anyFrame(c chance, p *pair) int {
	if c.IntN(20) == 0 {
		return int(c.Uint64())
	}
	return p.want.first - 1 + c.IntN(p.want.last-p.want.first+3)
}

// play does with both what c throws, and holds them against each other.
func play(t *testing.T, c chance, p *pair, steps int) {
	t.Helper()
	for range steps {
		switch c.IntN(12) {
		case 0:
			p.cut(t, anyFrame(c, p))
		case 1:
			p.drop(t, anyFrame(c, p))
		case 2:
			p.push(t, state(anyFrame(c, p), c.IntN(5000)))
		case 3:
			p.push(t, spoilt(p.want.last+1, c.IntN(14)))
		default:
			p.push(t, state(p.want.last+1, c.IntN(5000)))
		}
	}
}

// Promise 15.1: whatever comes.
func TestAny(t *testing.T) {
	c := rand.New(rand.NewPCG(15, 1))
	for _, frame := range []int{0, 0, 1, 500, api.MaxFrame - 200, api.MaxFrame - 30, api.MaxFrame} {
		play(t, c, newPair(t, state(frame, c.IntN(5000))), 300)
	}
}

// FuzzAll: whatever comes, by bytes: each two are a call.
func FuzzAll(f *testing.F) {
	f.Add(0, []byte{0, 1, 0, 2, 0, 3, 1, 9, 0, 4, 2, 9})
	f.Add(api.MaxFrame-2, []byte{0, 1, 0, 2, 0, 3, 3, 0})
	f.Add(-1, []byte{0, 0})
	f.Fuzz(func(t *testing.T, from int, calls []byte) {
		if from < 0 || from > api.MaxFrame {
			if New(state(from, 1)) != nil {
				t.Fatal(from)
			}
			return
		}
		p := newPair(t, state(from, 7))
		for n := 0; n+1 < len(calls) && n < 200; n += 2 {
			frame := p.want.last + int(int8(calls[n+1]))/8
			switch calls[n] % 6 {
			case 1:
				p.cut(t, frame)
			case 2:
				p.drop(t, frame)
			case 3:
				p.push(t, state(frame, int(calls[n])))
			default:
				p.push(t, state(p.want.last+1, n*int(calls[n+1])))
			}
		}
	})
}
