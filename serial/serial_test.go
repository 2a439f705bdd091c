package serial

import (
	"math/rand/v2"
	"slices"
	"testing"
)

type chance = *rand.Rand

// What the document tells of numbers, by nothing of the program's own.

const (
	round = 65536
	half  = round / 2
)

// wantWay is what promise 11.1 tells of Way.
func wantWay(a, b uint16) int {
	way := int(b) - int(a)
	for way > 32767 {
		way -= 65536
	}
	for way < -32768 {
		way += 65536
	}
	return way
}

// wantTold is what promise 11.2 tells of Told.
func wantTold(s, ack uint16, seen uint32) bool {
	told := s == ack
	for i := range 32 {
		if seen/(1<<i)%2 == 1 && (int(s)+i+1)%round == int(ack) {
			told = true
		}
	}
	return told
}

// record is what promise 11.2 tells of a Heard, with every number that came, and
// how many rounds were gone by then: its numbers do not go round.
type record struct {
	last int
	came map[int]bool
}

// note is what promise 11.2 tells of Note.
func (r *record) note(s uint16) bool {
	if r.came == nil {
		r.last, r.came = int(s), map[int]bool{int(s): true}
		return true
	}
	way := wantWay(uint16(r.last), s)
	at := r.last + way
	if way < -32 || r.came[at] {
		return false
	}
	r.last = max(r.last, at)
	r.came[at] = true
	return true
}

// tells is what promise 11.2 tells of Last.
func (r *record) tells() (uint16, uint32) {
	seen := uint32(0)
	for i := range 32 {
		if r.came[r.last-i-1] {
			seen += 1 << i
		}
	}
	return uint16(r.last), seen
}

// pair is a Heard, and what it should be.
type pair struct {
	h    *Heard
	want record
}

// note notes s on both, and fails if they don't answer alike.
func (p *pair) note(t *testing.T, s uint16) bool {
	t.Helper()
	before := *p.h
	got, want := p.h.Note(s), p.want.note(s)
	ack, seen := p.h.Last()
	wantAck, wantSeen := p.want.tells()
	if got != want || ack != wantAck || seen != wantSeen {
		t.Fatalf("%+v, %d came: %t, %d, %b; want %t, %d, %b", before, s, got, ack, seen, want, wantAck, wantSeen)
	}
	if !got && *p.h != before {
		t.Fatalf("%+v, %d came: %+v, though that is nothing new", before, s, *p.h)
	}
	return got
}

// edges are the numbers at which something turns, around each of some places.
func edges() []uint16 {
	var list []uint16
	for _, at := range []int{0, 1, 31, 32, 33, 100, half - 33, half - 1, half, half + 1, half + 32, 60000, round - 34, round - 32, round - 1} {
		list = append(list, uint16(at))
	}
	return list
}

// Promise 11.1: as the document tells it, by the numbers that it names.
func TestWayByHand(t *testing.T) {
	for _, x := range []struct {
		a, b uint16
		way  int
	}{
		{65535, 0, 1},
		{0, 65535, -1},
		{0, 0, 0},
		{65535, 65535, 0},
		{0, 32767, 32767},
		{0, 32768, -32768},
		{0, 32769, -32767},
		{32768, 0, -32768},
		{32767, 0, -32767},
		{40000, 1, 25537},
		{1, 40000, -25537},
	} {
		if got := Way(x.a, x.b); got != x.way {
			t.Errorf("from %d to %d: %d; want %d", x.a, x.b, got, x.way)
		}
		if got := Ahead(x.b, x.a); got != (x.way > 0) {
			t.Errorf("%d ahead of %d: %t", x.b, x.a, got)
		}
	}
}

// Promise 11.1: every way round, from all places at which it may turn.
func TestWay(t *testing.T) {
	for _, a := range edges() {
		for to := range round {
			b := uint16(to)
			want := wantWay(a, b)
			if got := Way(a, b); got != want || (int(a)+got-int(b))%round != 0 {
				t.Fatalf("from %d to %d: %d; want %d", a, b, got, want)
			}
			if got := Ahead(b, a); got != (want > 0) {
				t.Fatalf("%d ahead of %d: %t, and it is %d", b, a, got, want)
			}
			if want != -half && Way(b, a) != -want {
				t.Fatalf("from %d to %d, and back: %d, %d", a, b, want, Way(b, a))
			}
			if Ahead(a, b) && Ahead(b, a) || want%half != 0 && !Ahead(a, b) && !Ahead(b, a) {
				t.Fatalf("%d, %d: which one is ahead?", a, b)
			}
		}
	}
}

// Promise 11.2: the first one is new, whichever it is, and has nothing behind it.
func TestFirst(t *testing.T) {
	for first := range round {
		p := pair{h: New()}
		if ack, seen := p.h.Last(); ack != 0 || seen != 0 {
			t.Fatalf("nothing came: %d, %b", ack, seen)
		}
		if !p.note(t, uint16(first)) || p.note(t, uint16(first)) {
			t.Fatalf("%d is the first one, then it is not new", first)
		}
	}
}

// Promise 11.2: whichever comes behind the first one, and a second time.
func TestSecond(t *testing.T) {
	for _, first := range edges() {
		for s := range round {
			p := pair{h: New()}
			p.note(t, first)
			way := wantWay(first, uint16(s))
			if got := p.note(t, uint16(s)); got != (way > 0 || -32 <= way && way < 0) {
				t.Fatalf("%d behind %d: %t", s, first, got)
			}
			if p.note(t, uint16(s)) {
				t.Fatalf("%d behind %d came twice, and was new twice", s, first)
			}
		}
	}
}

// Promise 11.2: all of the 32 behind the last one came, or none, or all but one;
// then the last one goes on, by each way that there is.
func TestGoesOn(t *testing.T) {
	for _, missing := range []int{-1, 0, 1, 16, 30, 31} {
		for way := 1; way < half; way = way*5/4 + 1 {
			p := pair{h: New()}
			for i := range 33 {
				if i != missing {
					p.note(t, uint16(65520+i)) // goes round on the way
				}
			}
			last, _ := p.h.Last()
			p.note(t, last+uint16(way))
			for s := range 80 {
				p.note(t, last+uint16(way-s))
			}
		}
	}
	p := pair{h: New()}
	p.note(t, 9)
	for n := range uint16(100) {
		p.note(t, 9+33*n) // none of the last ones leaves a bit
	}
}

// Promise 11.2: by the numbers of a hand: bit i is the one i + 1 behind.
func TestLastByHand(t *testing.T) {
	h := New()
	for _, x := range []struct {
		s    uint16
		is   bool
		ack  uint16
		seen uint32
	}{
		{65535, true, 65535, 0},
		{0, true, 0, 0b1},
		{3, true, 3, 0b1100},
		{0, false, 3, 0b1100},
		{2, true, 3, 0b1101},
		{2, false, 3, 0b1101},
		{65507, true, 3, 0b1101 | 1<<31},
		{65507, false, 3, 0b1101 | 1<<31},
		{65506, false, 3, 0b1101 | 1<<31},
		{3 + 32768, false, 3, 0b1101 | 1<<31},
		{4, true, 4, 0b11011},
		{65507, false, 4, 0b11011},
		{35, true, 35, 0b1101<<31&(1<<32-1) | 1<<30},
		{68, true, 68, 0},
		{68 + 32767, true, 68 + 32767, 0},
		{68, false, 68 + 32767, 0},
		{67, false, 68 + 32767, 0},
		{66, true, 66, 0},
	} {
		is := h.Note(x.s)
		if ack, seen := h.Last(); is != x.is || ack != x.ack || seen != x.seen {
			t.Errorf("%d came: %t, %d, %b; want %t, %d, %b", x.s, is, ack, seen, x.is, x.ack, x.seen)
		}
	}
}

// Promise 11.2: what the other end says, by each bit, of every number.
func TestTold(t *testing.T) {
	for _, ack := range edges() {
		for _, seen := range []uint32{0, 1, 2, 1 << 30, 1 << 31, 1<<32 - 1, 0x5555_5555, 0xaaaa_aaaa} {
			told := 0
			for s := range round {
				if got := Told(uint16(s), ack, seen); got != wantTold(uint16(s), ack, seen) {
					t.Fatalf("%d, of %d, %b: %t", s, ack, seen, got)
				} else if got {
					told++
				}
			}
			if want := 1 + ones(seen); told != want {
				t.Errorf("%d, %b tell of %d numbers; want %d", ack, seen, told, want)
			}
		}
		for i := range 32 {
			for at := range 40 {
				if got := Told(ack-uint16(at), ack, 1<<i); got != (at == 0 || at == i+1) {
					t.Errorf("%d behind %d, bit %d: %t", at, ack, i, got)
				}
			}
		}
	}
}

// ones is how many bits are there.
func ones(seen uint32) int {
	n := 0
	for ; seen > 0; seen /= 2 {
		n += int(seen % 2)
	}
	return n
}

// Promise 11.2: what an end notes, and what the other end makes of what it tells.
func TestToldOfLast(t *testing.T) {
	by := rand.New(rand.NewPCG(11, 2))
	for range 40 {
		p := pair{h: New()}
		at := uint16(by.Uint32())
		for range 60 {
			at += uint16(by.IntN(5))
			p.note(t, at-uint16(by.IntN(40)))
		}
		ack, seen := p.h.Last()
		for s := range round {
			way := wantWay(ack, uint16(s))
			want := -32 <= way && way <= 0 && p.want.came[p.want.last+way]
			if got := Told(uint16(s), ack, seen); got != want {
				t.Fatalf("%d, of %d, %b: %t", s, ack, seen, got)
			}
		}
	}
}

// Promise 11.2: of nobody there is nothing, and an end that nobody made is new.
func TestNobody(t *testing.T) {
	var none *Heard
	for _, s := range edges() {
		if none.Note(s) {
			t.Errorf("%d came to nobody", s)
		}
		if ack, seen := none.Last(); ack != 0 || seen != 0 {
			t.Errorf("nobody heard %d, %b", ack, seen)
		}
		p := pair{h: &Heard{}}
		if !p.note(t, s) || p.note(t, s) {
			t.Errorf("%d came", s)
		}
	}
}

// Promise 11.2: each end hears by itself, and asking changes nothing.
func TestApart(t *testing.T) {
	a, b := New(), New()
	a.Note(7)
	a.Note(8)
	Told(9, 9, 1)
	if ack, seen := b.Last(); ack != 0 || seen != 0 {
		t.Errorf("b heard of %d, %b", ack, seen)
	}
	for range 3 {
		if ack, seen := a.Last(); ack != 8 || seen != 1 {
			t.Errorf("a heard of %d, %b", ack, seen)
		}
	}
	if !b.Note(8) || !b.Note(7) || a.Note(7) {
		t.Error("b hears as a did, or a anew")
	}
}

// Promise 11.3 and T4: a sender numbers three rounds on; the way loses, doubles
// and delays: nothing is new twice, and nothing of the last 33 is missed.
func TestTwice(t *testing.T) {
	const sent = 3*round + 500
	for seed := range uint64(4) {
		by := rand.New(rand.NewPCG(11, seed))
		p := pair{h: New()}
		news, arrived := map[int]bool{}, map[int]bool{}
		deliver := func(n int) {
			late := len(arrived) > 0 && p.want.last-n > 32
			is := p.note(t, uint16(n))
			if is != (!arrived[n] && !late) || is && news[n] {
				t.Fatalf("seed %d: %d came, as it did %t, late %t: %t", seed, n, arrived[n], late, is)
			}
			arrived[n], news[n] = true, news[n] || is
		}
		var way []int
		for n := range sent {
			for range by.IntN(3) { // lost, sent, doubled
				way = append(way, n)
			}
			for len(way) > 0 && by.IntN(3) > 0 {
				at := by.IntN(len(way))
				deliver(way[at])
				if by.IntN(4) > 0 { // else it comes again
					way = slices.Delete(way, at, at+1)
				}
			}
			if len(way) > 60 {
				way = way[by.IntN(50):]
			}
		}
		if len(news) < sent/4 || len(news) == sent {
			t.Errorf("seed %d: %d of %d came", seed, len(news), sent)
		}
	}
}

// Promise 11.3 and T4: what was told once comes again, in any order: nothing is
// new, and nothing changes.
func TestAllAgain(t *testing.T) {
	by := rand.New(rand.NewPCG(11, 3))
	p := pair{h: New()}
	var came []uint16
	for range 500 {
		last, _ := p.h.Last()
		s := last + uint16(by.IntN(70)) - 35
		p.note(t, s)
		came = append(came, s)
		for range 5 {
			if back := came[by.IntN(len(came))]; p.note(t, back) {
				t.Fatalf("%d is new again", back)
			}
		}
	}
	if last := p.want.last - int(came[0]); last < 500 {
		t.Errorf("too little went on: %d", last)
	}
}

// Promises 11.1 and 11.2: any numbers at all, far and near, as they come.
func TestAny(t *testing.T) {
	by := rand.New(rand.NewPCG(11, 4))
	for range 300 {
		p := pair{h: New()}
		for range 400 {
			p.note(t, anyNumber(by, p.h))
		}
	}
}

// anyNumber is a number near to the last one, or around half a round from it, or any.
func anyNumber(by chance, h *Heard) uint16 {
	last, _ := h.Last()
	near := uint16(by.IntN(81)) - 40
	return []uint16{last + near, last + near, last + near, last + half + near, uint16(by.Uint32())}[by.IntN(5)]
}

func FuzzAll(f *testing.F) {
	f.Add(uint16(1), uint32(5), []byte{0, 0, 0, 1, 0, 32, 255, 255})
	f.Add(uint16(65535), uint32(1<<31), []byte{255, 255, 0, 0, 255, 224, 255, 223})
	f.Add(uint16(32768), uint32(1<<32-1), []byte{128, 0, 0, 0, 127, 255})
	f.Fuzz(func(t *testing.T, ack uint16, seen uint32, list []byte) {
		p := pair{h: New()}
		for ; len(list) >= 2; list = list[2:] {
			s := uint16(list[0])*256 + uint16(list[1])
			p.note(t, s)
			if Told(s, ack, seen) != wantTold(s, ack, seen) || Way(s, ack) != wantWay(s, ack) || Ahead(s, ack) != (wantWay(ack, s) > 0) {
				t.Fatal(s, ack, seen)
			}
			last, came := p.h.Last()
			if Told(s, last, came) != wantTold(s, last, came) {
				t.Fatal(s, last, came)
			}
		}
	})
}
