package link

import (
	"math"
	"math/big"
	"math/rand/v2"
	"slices"
	"testing"

	"ceilidh/serial"
)

type chance = *rand.Rand

const round = 65536

// told is which numbers the other end says came, as promise 11.2 tells it.
func told(ack uint16, seen uint32) []uint16 {
	list := []uint16{ack}
	for i := range uint16(32) {
		if seen>>i&1 == 1 {
			list = append(list, ack-i-1)
		}
	}
	return list
}

// record is what promise 13.1 tells of a Link: what it stamped is counted on, and
// only told by numbers that go round; its times have no end.
type record struct {
	sent  int
	open  []int
	came  *serial.Heard
	heard *big.Int
}

// stamp is what promise 13.1 tells of Stamp.
func (r *record) stamp() (uint16, uint16, uint32) {
	r.sent++
	r.open = append(r.open, r.sent)
	for len(r.open) > 64 {
		r.open = r.open[1:]
	}
	ack, seen := r.came.Last()
	return uint16(r.sent % round), ack, seen
}

// hear is what promise 13.1 tells of Hear.
func (r *record) hear(now int, s, ack uint16, seen uint32) bool {
	var left []int
	list := told(ack, seen)
	for _, n := range r.open {
		if !slices.Contains(list, uint16(n%round)) {
			left = append(left, n)
		}
	}
	r.open = left
	if at := big.NewInt(int64(now)); at.Cmp(r.heard) > 0 {
		r.heard = at
	}
	return r.came.Note(s)
}

// quiet is what promise 13.1 tells of Quiet, as near to it as an int comes.
func (r *record) quiet(now int) int {
	gap := new(big.Int).Sub(big.NewInt(int64(now)), r.heard)
	if gap.Sign() < 0 {
		return 0
	}
	if most := big.NewInt(math.MaxInt); gap.Cmp(most) > 0 {
		return math.MaxInt
	}
	return int(gap.Int64())
}

// pair is a Link, and what it should be.
type pair struct {
	l    *Link
	want record
}

func newPair(now int) *pair {
	return &pair{New(now), record{came: serial.New(), heard: big.NewInt(int64(now))}}
}

// stamp stamps both, and fails if they don't answer alike.
func (p *pair) stamp(t *testing.T) uint16 {
	t.Helper()
	s, ack, seen := p.l.Stamp()
	wantS, wantAck, wantSeen := p.want.stamp()
	if s != wantS || ack != wantAck || seen != wantSeen {
		t.Fatalf("stamped %d, %d, %b; want %d, %d, %b", s, ack, seen, wantS, wantAck, wantSeen)
	}
	return s
}

// hear lets both hear, and fails if they don't answer alike.
func (p *pair) hear(t *testing.T, now int, s, ack uint16, seen uint32) bool {
	t.Helper()
	before := p.l.Open()
	got, want := p.l.Hear(now, s, ack, seen), p.want.hear(now, s, ack, seen)
	if got != want {
		t.Fatalf("at %d %d came, with %d, %b: %t", now, s, ack, seen, got)
	}
	p.check(t, now)
	if t.Failed() {
		t.Fatalf("at %d %d came, with %d, %b; open were %d", now, s, ack, seen, before)
	}
	return got
}

// check fails unless what is to be seen of both is alike.
func (p *pair) check(t *testing.T, now int) {
	t.Helper()
	var open []uint16
	for _, n := range p.want.open {
		open = append(open, uint16(n%round))
	}
	if got := p.l.Open(); !slices.Equal(got, open) {
		t.Errorf("open: %d; want %d", got, open)
	}
	for _, at := range []int{now, now - 1, now + 1, now + 40, 0, math.MinInt, math.MaxInt} {
		if got, want := p.l.Quiet(at), p.want.quiet(at); got != want {
			t.Errorf("quiet at %d: %d; want %d", at, got, want)
		}
	}
}

// Promise 13.1: as the document tells it, by the numbers of a hand.
func TestByHand(t *testing.T) {
	l := New(10)
	open := func(want ...uint16) {
		t.Helper()
		if got := l.Open(); !slices.Equal(got, want) {
			t.Errorf("open: %d; want %d", got, want)
		}
	}
	stamp := func(s, ack uint16, seen uint32) {
		t.Helper()
		if a, b, c := l.Stamp(); a != s || b != ack || c != seen {
			t.Errorf("stamped %d, %d, %b; want %d, %d, %b", a, b, c, s, ack, seen)
		}
	}
	hear := func(now int, s, ack uint16, seen uint32, is bool) {
		t.Helper()
		if got := l.Hear(now, s, ack, seen); got != is {
			t.Errorf("%d came: %t", s, got)
		}
	}
	open()
	stamp(1, 0, 0)
	stamp(2, 0, 0)
	open(1, 2)
	hear(12, 50, 0, 0, true) // the other end heard nothing yet
	open(1, 2)
	stamp(3, 50, 0)
	stamp(4, 50, 0)
	hear(13, 52, 3, 0, true)
	open(1, 2, 4)
	stamp(5, 52, 0b10)
	hear(13, 51, 2, 0, true) // late, and new
	open(1, 4, 5)
	hear(13, 51, 5, 0b1001, false) // twice, and it tells of 5, 4 and 1
	open()
	stamp(6, 52, 0b11)
	hear(14, 53, 65535, 0, true) // nobody stamped that
	hear(14, 54, 5, 1<<32-1, true)
	open(6)
	hear(14, 54, 7, 1, false)
	open()
}

// Promise 13.1: the numbers go round, from 1 on, over 0 as well, and the last 64
// of them are open.
func TestRound(t *testing.T) {
	l := New(0)
	for n := 1; n < 3*round+100; n++ {
		s, ack, seen := l.Stamp()
		if int(s) != n%round || ack != 0 || seen != 0 {
			t.Fatalf("stamped %d, %d, %b; want %d", s, ack, seen, n%round)
		}
		if n > 200 && n%round > 200 && n%97 != 0 {
			continue
		}
		open := l.Open()
		if len(open) != min(n, 64) {
			t.Fatalf("%d are open, of %d", len(open), n)
		}
		for i, got := range open {
			if want := n - len(open) + 1 + i; int(got) != want%round {
				t.Fatalf("open behind %d: %d", n, open)
			}
		}
	}
}

// Promise 13.1: of more than 64 the eldest is forgotten, and not of fewer: what was
// told of makes room, wherever it stood, and what was forgotten stays so.
func TestForgotten(t *testing.T) {
	for gone := uint16(1); gone <= 64; gone++ {
		p := newPair(0)
		for range 64 {
			p.stamp(t)
		}
		p.hear(t, 1, 1, gone, 0)
		p.stamp(t)
		first := uint16(1)
		if gone == 1 {
			first = 2
		}
		if open := p.l.Open(); len(open) != 64 || open[0] != first || open[63] != 65 {
			t.Fatalf("%d made room: %d", gone, open)
		}
		for range 10 {
			p.stamp(t)
			p.check(t, 1)
		}
		p.hear(t, 2, 2, 75, 1<<32-1)
		p.stamp(t)
		p.check(t, 2)
		if open := p.l.Open(); slices.Contains(open, 10) || slices.Contains(open, gone) {
			t.Fatalf("%d, forgotten or told of, is open again: %d", gone, open)
		}
	}
}

// Promise 13.1: whatever the other end says, of those that are told just those are
// not open any more: around the numbers' turn, behind each number that it may name.
func TestTold(t *testing.T) {
	for _, stamped := range []int{1, 40, 64, 100, round - 1, round, round + 20, round + 64} {
		end := New(0)
		for range stamped {
			end.Stamp()
		}
		all := end.Open()
		for _, seen := range []uint32{0, 1, 1 << 31, 1<<32 - 1, 0x5555_5555, 0x8000_0001} {
			for at := range round {
				ack := uint16(at)
				if by := ack - uint16(stamped); by > 50 && by < round-110 && by%61 != 0 {
					continue
				}
				l := &Link{open: slices.Clone(all), came: serial.New()}
				l.Hear(0, 0, ack, seen)
				list := told(ack, seen)
				want := slices.DeleteFunc(slices.Clone(all), func(s uint16) bool { return slices.Contains(list, s) })
				if got := l.Open(); !slices.Equal(got, want) {
					t.Fatalf("%d, %b, of %d: %d; want %d", ack, seen, all, got, want)
				}
			}
		}
	}
}

// Promise 13.1: each bit tells of its own number, and of no other.
func TestEachBit(t *testing.T) {
	for i := range uint16(32) {
		l := New(0)
		var want []uint16
		for range 64 {
			if s, _, _ := l.Stamp(); s != 64-i {
				want = append(want, s)
			}
		}
		l.Hear(0, 0, 65, 1<<i)
		if got := l.Open(); !slices.Equal(got, want) {
			t.Errorf("bit %d: %d", i, got)
		}
	}
}

// Promise 13.1: one that was not told of stays open for whole rounds, if nothing
// pushes it out; each time that its number was stamped is one of its own.
func TestOpenForRounds(t *testing.T) {
	p := newPair(0)
	p.stamp(t)
	for range 3 {
		for range round - 1 {
			s := p.stamp(t)
			if open := p.l.Open(); open[0] != 1 || open[len(open)-1] != s {
				t.Fatalf("%d stamped: %d", s, open)
			}
			if !p.l.Hear(0, s, s, 0) || !p.want.hear(0, s, s, 0) {
				t.Fatalf("%d came", s)
			}
		}
		p.check(t, 0)
		if s := p.stamp(t); s != 1 {
			t.Fatalf("stamped %d", s)
		}
		p.check(t, 0)
	}
	if open := p.l.Open(); !slices.Equal(open, []uint16{1, 1, 1, 1}) {
		t.Errorf("open: %d", open)
	}
	p.hear(t, 0, 0, 2, 1)
	if open := p.l.Open(); len(open) != 0 {
		t.Errorf("told of: %d", open)
	}
}

// Promise 13.1: how long it is quiet, by each two times that there are at an
// int's ends and near nought; only a later time is one at which it was heard.
func TestQuiet(t *testing.T) {
	times := []int{math.MinInt, math.MinInt + 1, -41, -1, 0, 1, 40, 41, math.MaxInt - 1, math.MaxInt}
	for _, first := range times {
		for _, second := range times {
			p := newPair(first)
			p.check(t, second)
			for i, now := range times {
				p.hear(t, second, uint16(i), 0, 0)
				p.check(t, now)
				if got := p.l.Quiet(max(first, second)); got != 0 {
					t.Errorf("heard at %d, %d: quiet %d", first, second, got)
				}
			}
		}
	}
	for _, x := range []struct{ heard, now, quiet int }{
		{5, 5, 0},
		{5, 6, 1},
		{5, 4, 0},
		{-5, 5, 10},
		{5, math.MinInt, 0},
		{0, math.MaxInt, math.MaxInt},
		{-1, math.MaxInt - 1, math.MaxInt},
		{-1, math.MaxInt, math.MaxInt},
		{math.MinInt, math.MaxInt, math.MaxInt},
		{math.MinInt, -1, math.MaxInt},
		{math.MinInt, -2, math.MaxInt - 1},
		{math.MinInt, math.MinInt, 0},
		{math.MaxInt, math.MinInt, 0},
	} {
		if got := New(x.heard).Quiet(x.now); got != x.quiet {
			t.Errorf("heard at %d, quiet at %d: %d; want %d", x.heard, x.now, got, x.quiet)
		}
	}
}

// Promise 13.1: what came from the other end is told with each that is stamped,
// and Hear tells of each whether it is new.
func TestCame(t *testing.T) {
	by := rand.New(rand.NewPCG(13, 1))
	for range 50 {
		p := newPair(0)
		at := uint16(by.Uint32())
		for now := range 200 {
			at += uint16(by.IntN(4))
			p.hear(t, now, at-uint16(by.IntN(40)), at, 0)
			p.stamp(t)
			if by.IntN(20) == 0 {
				at += uint16(by.Uint32())
			}
		}
	}
}

// Promise 13.1: of nobody there is nothing; an end that nobody made breaks nothing.
func TestNobody(t *testing.T) {
	var none *Link
	for _, n := range []uint16{0, 1, 65535} {
		if s, ack, seen := none.Stamp(); s != 0 || ack != 0 || seen != 0 {
			t.Errorf("nobody stamped %d, %d, %b", s, ack, seen)
		}
		if none.Hear(int(n), n, n, 1<<32-1) {
			t.Errorf("%d came to nobody", n)
		}
		if open := none.Open(); len(open) != 0 {
			t.Errorf("open at nobody: %d", open)
		}
		for _, now := range []int{math.MinInt, 0, 9, math.MaxInt} {
			if quiet := none.Quiet(now); quiet != 0 {
				t.Errorf("nobody is quiet: %d", quiet)
			}
		}
	}
	var bare Link
	bare.Stamp()
	bare.Hear(1, 1, 9, 0)
	if open := bare.Open(); len(open) != 1 || bare.Quiet(3) < 0 {
		t.Errorf("open: %d", open)
	}
}

// Rule 2: what is answered is the caller's own, each time.
func TestOwn(t *testing.T) {
	l := New(0)
	for range 70 {
		l.Stamp()
	}
	a, b := l.Open(), l.Open()
	want := slices.Clone(a)
	for i := range a {
		a[i] = 0
	}
	_ = append(a[:1], 7, 7, 7)
	if !slices.Equal(b, want) || !slices.Equal(l.Open(), want) {
		t.Errorf("what was answered was changed: %d", b)
	}
	l.Hear(0, 1, 70, 1<<32-1)
	l.Stamp()
	if !slices.Equal(b, want) {
		t.Errorf("what was answered went on: %d", b)
	}
}

// Each end knows what it stamped and heard itself, and asking changes nothing.
func TestApart(t *testing.T) {
	a, b := New(3), New(4)
	a.Stamp()
	a.Hear(9, 5, 0, 0)
	for range 3 {
		if len(a.Open()) != 1 || a.Quiet(10) != 1 || a.Quiet(100) != 91 {
			t.Errorf("a: open %d, quiet %d", a.Open(), a.Quiet(10))
		}
	}
	if len(b.Open()) != 0 || b.Quiet(10) != 6 {
		t.Errorf("b: open %d, quiet %d", b.Open(), b.Quiet(10))
	}
	if s, ack, seen := b.Stamp(); s != 1 || ack != 0 || seen != 0 {
		t.Errorf("b stamped %d, %d, %b", s, ack, seen)
	}
	if s, ack, seen := a.Stamp(); s != 2 || ack != 5 || seen != 0 {
		t.Errorf("a stamped %d, %d, %b", s, ack, seen)
	}
}

// Promise 13.1: any calls at all, near and far, in any order.
func TestAny(t *testing.T) {
	by := rand.New(rand.NewPCG(13, 2))
	for range 200 {
		p := newPair(by.IntN(100) - 50)
		for range by.IntN(2) * (round - 100) {
			p.stamp(t)
		}
		came := uint16(by.Uint32())
		for now := range 300 {
			for range by.IntN(4) {
				came++
				p.stamp(t)
			}
			near := uint16(p.want.sent - by.IntN(90) + 5)
			ack := []uint16{near, near, near, uint16(by.Uint32())}[by.IntN(4)]
			p.hear(t, now-by.IntN(9), came-uint16(by.IntN(40)), ack, by.Uint32()&by.Uint32())
		}
	}
}

func FuzzAll(f *testing.F) {
	f.Add(5, 3, []byte{0, 7, 0, 2, 0, 0, 0, 1})
	f.Add(math.MinInt, 65, []byte{255, 255, 0, 64, 255, 255, 255, 255, 0, 0, 0, 1, 128, 0, 0, 1})
	f.Add(math.MaxInt, 65536, []byte{0, 0, 0, 0, 0, 0, 0, 0})
	f.Fuzz(func(t *testing.T, now, many int, list []byte) {
		p := newPair(now)
		for range uint32(many) % 70000 {
			p.stamp(t)
		}
		for ; len(list) >= 8; list = list[8:] {
			n := func(at int) uint16 { return uint16(list[at])<<8 | uint16(list[at+1]) }
			p.hear(t, now+int(int16(n(6))), n(0), n(2), uint32(n(4))<<16|uint32(n(6)))
			for range list[7] % 8 {
				p.stamp(t)
			}
			p.check(t, now)
		}
	})
}
