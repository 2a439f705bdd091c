package queue

import (
	"math"
	"math/rand/v2"
	"slices"
	"testing"

	"ceilidh/api"
	"ceilidh/stick"
)

type chance = *rand.Rand

// place is which frame it is, counted from the least one of all.
func place(frame int) uint64 { return uint64(int64(frame)) + 1<<63 }

// fact is what was made known of a frame.
type fact struct {
	frame uint64 // its place
	in    api.Input
}

// record is what promise 14.1 tells of a Queue: it keeps all that was ever made
// known, in a row.
type record struct {
	from  uint64 // its place
	last  api.Input
	facts []fact
}

// put is what promise 14.1 tells of Put.
func (r *record) put(frame int, in api.Input) bool {
	at := place(frame)
	known := slices.ContainsFunc(r.facts, func(f fact) bool { return f.frame == at })
	if in.X == -128 || in.Y == -128 || at < r.from || at-r.from > 63 || known {
		return false
	}
	r.facts = append(r.facts, fact{at, in})
	return true
}

// at is what promise 14.1 tells of At: it looks from the first frame on.
func (r *record) at(frame int) (api.Input, bool) {
	end, in, from := place(frame), r.last, r.from
	for _, f := range r.facts {
		switch {
		case f.frame < r.from: // gone
		case f.frame == end:
			return f.in, true
		case f.frame < end && f.frame >= from:
			in, from = f.in, f.frame
		}
	}
	return in, false
}

// done is what promise 14.1 tells of Done.
func (r *record) done(in api.Input) {
	r.from++
	r.last = in
}

// known is what promise 14.1 tells of Known.
func (r *record) known() int {
	var are [65]bool
	for _, f := range r.facts {
		if f.frame >= r.from {
			are[f.frame-r.from] = true
		}
	}
	return slices.Index(are[:], false)
}

// pair is a Queue, and what it should be.
type pair struct {
	q    *Queue
	want record
}

func newPair(from int, last api.Input) *pair {
	return &pair{New(from, last), record{from: place(from), last: last}}
}

// put puts in both, and fails if they don't answer alike.
func (p *pair) put(t *testing.T, frame int, in api.Input) bool {
	t.Helper()
	from := p.q.From()
	got, want := p.q.Put(frame, in), p.want.put(frame, in)
	if got != want {
		t.Fatalf("from %d on, %d was %v: %t", from, frame, in, got)
	}
	return got
}

// done lets both go on.
func (p *pair) done(t *testing.T, in api.Input) {
	t.Helper()
	if p.q.From() == math.MaxInt {
		t.Fatal("no frame is behind the greatest")
	}
	p.q.Done(in)
	p.want.done(in)
}

// check fails unless what is to be seen of both is alike.
func (p *pair) check(t *testing.T) {
	t.Helper()
	if got := p.q.From(); place(got) != p.want.from {
		t.Fatalf("from %d; want %d", got, int64(p.want.from-1<<63))
	}
	if got, want := p.q.Known(), p.want.known(); got != want {
		t.Fatalf("from %d on %d are known; want %d", p.q.From(), got, want)
	}
	p.checkAt(t, 0, math.MinInt, math.MinInt+1, math.MaxInt-1, math.MaxInt)
	for n := range 70 {
		p.checkAt(t, p.q.From()-3+n) // goes round at an int's ends
	}
}

func (p *pair) checkAt(t *testing.T, frames ...int) {
	t.Helper()
	for _, frame := range frames {
		got, is := p.q.At(frame)
		if want, known := p.want.at(frame); got != want || is != known {
			t.Fatalf("from %d on, at %d: %v, %t; want %v, %t", p.q.From(), frame, got, is, want, known)
		}
	}
}

// input is an input of its own for each of many numbers.
func input(n int) api.Input {
	return api.Input{X: int8(n%255 - 127), Y: int8(n/255%255 - 127), B: uint8(n * 7)}
}

// anyInput is now and then one that no stick makes.
func anyInput(c chance) api.Input {
	return api.Input{X: int8(c.IntN(256)), Y: int8(-128 + c.IntN(1+c.IntN(256))), B: uint8(c.IntN(256))}
}

// Promise 14.1: as the document tells it, by the numbers of a hand.
func TestByHand(t *testing.T) {
	a, b, c, d := api.Input{X: 1}, api.Input{Y: -2}, api.Input{B: 3}, api.Input{X: 127, Y: -127, B: 255}
	q := New(4, b)
	at := func(frame int, want api.Input, known bool) {
		t.Helper()
		if in, is := q.At(frame); in != want || is != known {
			t.Errorf("at %d: %v, %t; want %v, %t", frame, in, is, want, known)
		}
	}
	put := func(frame int, in api.Input, want bool) {
		t.Helper()
		if is := q.Put(frame, in); is != want {
			t.Errorf("%d was %v: %t", frame, in, is)
		}
	}
	stand := func(from, known int) {
		t.Helper()
		if q.From() != from || q.Known() != known {
			t.Errorf("from %d on %d are known; want from %d on %d", q.From(), q.Known(), from, known)
		}
	}
	stand(4, 0)
	at(3, b, false)
	at(4, b, false)
	at(9, b, false)
	put(5, a, true)
	stand(4, 0) // 4 is not known
	at(4, b, false)
	at(5, a, true)
	at(9, a, false)
	put(5, c, false)
	at(5, a, true)
	put(8, d, true)
	at(7, a, false)
	at(8, d, true)
	at(9, d, false)
	put(3, c, false)
	at(3, b, false)
	put(4, c, true)
	stand(4, 2)
	at(3, b, false)
	put(68, a, false)
	put(67, a, true)
	at(68, a, false)
	q.Done(d) // frame 4 was c, as it seemed
	stand(5, 1)
	at(4, d, false)
	at(5, a, true)
	put(68, b, true)
	put(4, a, false)
	q.Done(c)
	q.Done(b)
	stand(7, 0)
	at(7, b, false)
	at(8, d, true)
	put(7, a, true)
	stand(7, 2)
}

// Promise 14.1: the frames that may be known are From and the 63 behind it, wherever
// From stands, and no others.
func TestReach(t *testing.T) {
	in := api.Input{X: 5}
	for _, from := range []int{0, 1, -1, -63, -64, -65, 63, 64, api.MaxFrame, 1 << 30, -1 << 30, math.MaxInt - 64, math.MaxInt - 63,
		math.MaxInt - 62, math.MaxInt - 1, math.MaxInt, math.MinInt, math.MinInt + 1, math.MinInt + 62, math.MinInt + 63, math.MinInt + 64} {
		for _, beyond := range []int{-1 << 20, -65, -64, -63, -2, -1, 0, 1, 2, 31, 32, 62, 63, 64, 65, 127, 128, 1 << 20, math.MaxInt, math.MinInt} {
			p := newPair(from, in)
			p.put(t, from+beyond, input(9)) // goes round at an int's ends
			p.check(t)
		}
		for _, frame := range []int{0, math.MinInt, math.MaxInt, math.MinInt + 63, math.MaxInt - 63} {
			p := newPair(from, in)
			p.put(t, frame, input(9))
			p.check(t)
		}
	}
}

// Promise 14.1: no input that can't be of a stick is known, at whichever axis, and each
// other is.
func TestMay(t *testing.T) {
	for x := -128; x < 128; x++ {
		for y := -128; y < 128; y++ {
			in := api.Input{X: int8(x), Y: int8(y), B: uint8(x ^ y)}
			q, may := New(0, api.Input{B: 9}), x != -128 && y != -128
			if q.Put(0, in) != may || may != stick.May(in) {
				t.Fatal(in, may)
			}
			if got, is := q.At(0); is != may || may && got != in || !may && got != (api.Input{B: 9}) {
				t.Fatal(in, got, is)
			}
			if !may && (q.Known() != 0 || !q.Put(0, api.Input{X: 1})) {
				t.Fatal(in, "is known")
			}
		}
	}
}

// Promise 14.1: what comes from New and Done is taken as it is; only Put asks what may be.
func TestAsItIs(t *testing.T) {
	odd := api.Input{X: -128, Y: -128, B: 1}
	q := New(7, odd)
	if in, is := q.At(7); in != odd || is {
		t.Error(in, is)
	}
	q = New(7, api.Input{})
	q.Done(odd)
	if in, is := q.At(8); in != odd || is || q.From() != 8 {
		t.Error(in, is)
	}
}

// Promise 14.1: what is known stays as it came first, and a Put that is false changes nothing.
func TestFirst(t *testing.T) {
	p := newPair(100, input(1))
	for n := 0; n < 64; n += 3 {
		p.put(t, 100+n, input(n))
	}
	for n := -70; n < 140; n++ {
		if n >= 0 && n < 64 && n%3 != 0 {
			continue
		}
		if p.put(t, 100+n, input(1000+n)) {
			t.Fatalf("%d is known anew", 100+n)
		}
		p.check(t)
	}
	for n := range 64 {
		if p.put(t, 100+n, api.Input{Y: -128}) || p.put(t, 100+n, api.Input{X: -128}) {
			t.Fatalf("no stick did that at %d", 100+n)
		}
	}
	p.check(t)
}

// Promise 14.1: Known stops at the first gap, wherever it is, and At goes back over it.
func TestGap(t *testing.T) {
	for gap := range 64 {
		for _, from := range []int{0, -30, math.MinInt, math.MaxInt - 63, math.MaxInt - 70} {
			p := newPair(from, input(1))
			for n := range 64 {
				if n != gap {
					p.put(t, from+n, input(100+n))
				}
			}
			if got := p.q.Known(); got != gap {
				t.Fatalf("but %d, %d are known", gap, got)
			}
			p.check(t)
			p.put(t, from+gap, input(7))
			if got := p.q.Known(); got != 64 {
				t.Fatalf("all are known: %d", got)
			}
			p.check(t)
		}
	}
}

// Promise 14.1: Done goes on by one, whether the frame was known or not, and whatever was
// known of it; what is known of later ones stays.
func TestDone(t *testing.T) {
	for mask := range 32 {
		p := newPair(-2, input(50))
		for n := range 5 {
			if mask>>n&1 == 1 {
				p.put(t, n-2, input(n))
			}
		}
		for n := range 8 {
			p.check(t)
			p.done(t, input(60+n))
			if in, is := p.q.At(p.q.From() - 1); in != input(60+n) || is {
				t.Fatalf("the frame that is done was %v, %t", in, is)
			}
		}
		p.check(t)
	}
}

// Promise 14.1: what was known of a frame that is done is gone for good, also of who
// reads further back; and it isn't made known again.
func TestGone(t *testing.T) {
	p := newPair(0, api.Input{})
	for n := range 64 {
		p.put(t, n, input(n))
	}
	for n := range 64 {
		p.done(t, input(500+n))
		for frame := range n + 1 {
			if in, is := p.q.At(frame); in != input(500+n) || is {
				t.Fatalf("behind %d, at %d: %v, %t", n, frame, in, is)
			}
			if p.put(t, frame, input(1)) {
				t.Fatalf("behind %d, %d is known", n, frame)
			}
		}
		p.check(t)
	}
}

// Promise 14.1: an int's ends. No frame is behind the greatest: a queue that is done with
// it knows nothing, and each frame is as it was.
func TestEnds(t *testing.T) {
	p := newPair(math.MaxInt-66, input(3))
	for n := range 67 {
		p.put(t, math.MaxInt-66+n, input(n))
	}
	for range 66 {
		p.check(t)
		p.put(t, math.MaxInt, input(80))
		p.done(t, input(90))
	}
	p.check(t)
	if p.q.From() != math.MaxInt || p.q.Known() != 1 {
		t.Fatal(p.q.From(), p.q.Known())
	}
	p.q.Done(input(91))
	for _, frame := range []int{math.MinInt, -1, 0, 1, math.MaxInt - 1, math.MaxInt} {
		if in, is := p.q.At(frame); in != input(91) || is {
			t.Errorf("at %d: %v, %t", frame, in, is)
		}
	}
	if p.q.Known() != 0 {
		t.Error(p.q.Known())
	}
	low := newPair(math.MinInt, input(3))
	for _, n := range []int{5, 63, 0} {
		low.put(t, math.MinInt+n, input(n))
		low.check(t)
	}
	for range 70 {
		low.done(t, input(4))
		low.check(t)
	}
}

// Promise 14.1: of nil all answers are nothing. A Queue that is no New's is one from frame 0
// on, that did nothing ahead of it.
func TestNobody(t *testing.T) {
	var nobody *Queue
	nobody.Done(input(1))
	for _, frame := range []int{0, 1, -1, math.MaxInt, math.MinInt} {
		if nobody.Put(frame, input(1)) {
			t.Error(frame)
		}
		if in, is := nobody.At(frame); in != (api.Input{}) || is {
			t.Error(frame, in, is)
		}
	}
	if nobody.From() != 0 || nobody.Known() != 0 {
		t.Error(nobody.From(), nobody.Known())
	}
	bare := &pair{&Queue{}, record{from: place(0)}}
	bare.check(t)
	bare.done(t, input(2))
	bare.check(t)
	bare.put(t, 2, input(3))
	bare.put(t, 1, input(4))
	bare.check(t)
}

// Rule 2: two queues have nothing in common.
func TestApart(t *testing.T) {
	p, q := newPair(0, input(1)), newPair(0, input(1))
	for n := range 100 {
		p.put(t, n+5, input(n))
		q.put(t, n+7, input(200+n))
		p.check(t)
		q.check(t)
		p.done(t, input(n))
		if n%2 == 0 {
			q.done(t, input(n))
		}
	}
}

// Rule 3: what is asked changes nothing.
func TestAsked(t *testing.T) {
	p := newPair(10, input(1))
	for n := range 20 {
		p.put(t, 12+n*3, input(n))
		for range 3 {
			p.check(t)
		}
	}
}

// No more is kept than the frames that may be known, however long a queue goes on.
func TestKept(t *testing.T) {
	q := New(0, api.Input{})
	for n := range 100_000 {
		for _, beyond := range []int{0, 1, 17, 62, 63, 64, 1000, -1} {
			q.Put(n+beyond, input(n))
		}
		if len(q.known) > 64 {
			t.Fatalf("behind %d frames %d are kept", n, len(q.known))
		}
		q.Done(input(n))
	}
	for range 64 {
		q.Done(api.Input{})
	}
	if len(q.known) != 0 {
		t.Errorf("%d are kept, and nothing is known", len(q.known))
	}
}

// play does with both what c throws, and holds them against each other.
func play(t *testing.T, c chance, p *pair, steps int) {
	t.Helper()
	for range steps {
		switch c.IntN(6) {
		case 0, 1, 2:
			p.put(t, p.q.From()+c.IntN(70)-3, anyInput(c))
		case 3:
			p.put(t, p.q.From()+p.q.Known(), input(c.IntN(1000)))
		case 4:
			p.put(t, int(c.Uint64()), anyInput(c))
		case 5:
			if p.q.From() < math.MaxInt {
				p.done(t, anyInput(c))
			}
		}
		p.check(t)
	}
}

// Promise 14.1: whatever comes.
func TestAny(t *testing.T) {
	c := rand.New(rand.NewPCG(14, 1))
	starts := []int{0, 0, 0, 5, -40, api.MaxFrame, math.MaxInt - 100, math.MaxInt - 20, math.MinInt, math.MinInt + 10}
	for _, from := range starts {
		for range 8 {
			play(t, c, newPair(from, anyInput(c)), 120)
		}
	}
}

// FuzzAll: whatever comes, by bytes: each two are a call.
func FuzzAll(f *testing.F) {
	f.Add(0, []byte{1, 2, 3, 4, 0, 0, 70, 9})
	f.Add(math.MaxInt-5, []byte{66, 1, 67, 2, 0, 3, 0, 4, 71, 5})
	f.Add(math.MinInt, []byte{127, 128, 0, 255, 128, 1})
	f.Fuzz(func(t *testing.T, from int, calls []byte) {
		p := newPair(from, api.Input{B: 77})
		for n := 0; n+1 < len(calls) && n < 400; n += 2 {
			in := api.Input{X: int8(calls[n+1]), Y: int8(n), B: calls[n]}
			if calls[n] != 0 {
				p.put(t, p.q.From()+int(calls[n])-50, in)
			} else if p.q.From() < math.MaxInt {
				p.done(t, in)
			}
			p.check(t)
		}
	})
}
