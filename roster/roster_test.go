package roster

import (
	"math"
	"math/rand/v2"
	"slices"
	"testing"

	"ceilidh/api"
)

type chance = *rand.Rand

// What the document tells of rosters, by nothing of the program's own.

// wantMay is what promise 8.1 tells of May.
func wantMay(r api.Roster) bool {
	ok := 0 <= r.Version && r.Version <= 1<<30
	for i, a := range r.Seats {
		ok = ok && -1 <= a.Peer && a.Peer <= 11 && 0 <= a.Gen && a.Gen <= 60000
		ok = ok && (a.Peer == -1 || a.Gen >= 1)
		for _, b := range r.Seats[:i] {
			ok = ok && (a.Peer == -1 || a.Peer != b.Peer)
		}
	}
	return ok
}

// wantOf is what promise 8.1 tells of Of.
func wantOf(r api.Roster, peer int) int {
	if !wantMay(r) || peer < 0 {
		return -1
	}
	return slices.IndexFunc(r.Seats[:], func(s api.Seat) bool { return s.Peer == peer })
}

// wantFree is what promise 8.1 tells of Free.
func wantFree(r api.Roster) int {
	var free []int
	for i, s := range r.Seats {
		if s.Peer == -1 {
			free = append(free, i)
		}
	}
	slices.SortStableFunc(free, func(a, b int) int { return r.Seats[a].Gen - r.Seats[b].Gen })
	if !wantMay(r) || len(free) == 0 || r.Seats[free[0]].Gen == 60000 {
		return -1
	}
	return free[0]
}

// wantMask is what promise 8.1 tells of Mask.
func wantMask(r api.Roster) int {
	mask := 0
	for i, s := range r.Seats {
		if wantMay(r) && s.Peer != -1 {
			mask += []int{1, 2, 4, 8, 16, 32, 64, 128}[i]
		}
	}
	return mask
}

// wantTake is what promise 8.2 tells of Take.
func wantTake(r api.Roster, slot, peer int) (api.Roster, int) {
	if !wantMay(r) || slot < 0 || slot > 7 || peer < 0 || peer > 11 || r.Version == 1<<30 {
		return r, 1
	}
	s := r.Seats[slot]
	if s.Peer != -1 || s.Gen == 60000 || wantOf(r, peer) != -1 {
		return r, 1
	}
	r.Seats[slot] = api.Seat{Peer: peer, Gen: s.Gen + 1}
	r.Version++
	return r, 0
}

// wantGive is what promise 8.2 tells of Give.
func wantGive(r api.Roster, slot int) (api.Roster, int) {
	if !wantMay(r) || slot < 0 || slot > 7 || r.Version == 1<<30 || r.Seats[slot].Peer == -1 {
		return r, 1
	}
	r.Seats[slot].Peer = -1
	r.Version++
	return r, 0
}

// wantApply is what promise 8.2 tells of Apply.
func wantApply(r api.Roster, e api.Event) (api.Roster, int) {
	next, code := r, 1
	switch e.Kind {
	case 1:
		next, code = wantTake(r, e.Slot, e.Peer)
		if code == 0 && next.Seats[e.Slot].Gen != e.Gen {
			return r, 1
		}
	case 2:
		next, code = wantGive(r, e.Slot)
		if code == 0 && (r.Seats[e.Slot].Gen != e.Gen || r.Seats[e.Slot].Peer != e.Peer) {
			return r, 1
		}
	}
	return next, code
}

// numbers are slots and peers, such that are and such that are none.
func numbers() []int {
	return []int{-1, 0, 1, 2, 3, 4, 5, 6, 7, 8, 9, 10, 11, 12, 13, -2, 255, 256, math.MinInt, math.MaxInt}
}

// holds tells where what is asked of r isn't what is told of it.
func holds(t *testing.T, r api.Roster) {
	t.Helper()
	if May(r) != wantMay(r) || Free(r) != wantFree(r) || Mask(r) != wantMask(r) {
		t.Fatalf("%+v: May %v, Free %d, Mask %#x", r, May(r), Free(r), Mask(r))
	}
	same := func(call string, got api.Roster, code int, want api.Roster, ok int) {
		if got != want || code != ok {
			t.Fatalf("%s of %+v:\n%+v, %d, not\n%+v, %d", call, r, got, code, want, ok)
		}
	}
	for _, n := range numbers() {
		if got := Of(r, n); got != wantOf(r, n) {
			t.Fatalf("Of(%+v, %d): %d", r, n, got)
		}
		got, code := Give(r, n)
		want, ok := wantGive(r, n)
		same("Give", got, code, want, ok)
		for _, peer := range numbers() {
			got, code = Take(r, n, peer)
			want, ok = wantTake(r, n, peer)
			same("Take", got, code, want, ok)
		}
	}
	for _, e := range events(r) {
		got, code := Apply(r, e)
		want, ok := wantApply(r, e)
		same("Apply", got, code, want, ok)
	}
}

// events are such as may be next on r, and others beside them.
func events(r api.Roster) []api.Event {
	list := []api.Event{{}, {Kind: 3}, {Kind: api.Join, Slot: -1, Gen: 1}, {Kind: api.Leave, Slot: 8, Gen: 1}, {Kind: api.Leave, Slot: math.MinInt}}
	for _, n := range []int{math.MinInt, math.MaxInt} {
		list = append(list, api.Event{Kind: n, Gen: 1}, api.Event{Kind: api.Join, Slot: n, Gen: 1}, api.Event{Kind: api.Leave, Slot: n, Gen: 1},
			api.Event{Kind: api.Join, Gen: n}, api.Event{Kind: api.Leave, Gen: n}, api.Event{Kind: api.Join, Gen: 1, Peer: n}, api.Event{Kind: api.Leave, Gen: 1, Peer: n})
	}
	for slot, s := range r.Seats {
		for _, kind := range []int{0, api.Join, api.Leave, 3, -1} {
			for _, gen := range []int{s.Gen - 1, s.Gen, s.Gen + 1, s.Gen + 2} {
				list = append(list, api.Event{Kind: kind, Slot: slot, Gen: gen, Peer: s.Peer},
					api.Event{Kind: kind, Slot: slot, Gen: gen, Peer: 11 - slot}, api.Event{Kind: kind, Slot: slot, Gen: gen, Peer: 12})
			}
		}
	}
	return list
}

// full is a roster in which all have been given as often as may be.
func full() api.Roster {
	r := api.Roster{Version: 1 << 30}
	for i := range r.Seats {
		r.Seats[i] = api.Seat{Peer: i + 4, Gen: 60000}
	}
	return r
}

// Promise 8.1: nobody has a slot, and nobody had one.
func TestNew(t *testing.T) {
	r := New()
	for i, s := range r.Seats {
		if s != (api.Seat{Peer: -1}) {
			t.Errorf("slot %d: %+v", i, s)
		}
	}
	if r.Version != 0 || !May(r) || Free(r) != 0 || Mask(r) != 0 || Of(r, -1) != -1 || Of(r, 0) != -1 {
		t.Errorf("%+v", r)
	}
	holds(t, r)
}

// Promise 8.1: each part at its limits and beside them, in each slot.
func TestMay(t *testing.T) {
	for _, v := range []int{0, 1, 1<<30 - 1, 1 << 30, 1<<30 + 1, -1, math.MinInt, math.MaxInt} {
		for _, r := range []api.Roster{New(), full()} {
			r.Version = v
			if May(r) != (v >= 0 && v <= 1<<30) {
				t.Errorf("Version %d: %v", v, May(r))
			}
			holds(t, r)
		}
	}
	for slot := range api.Slots {
		for seat, want := range map[api.Seat]bool{
			{Peer: -1}: true, {Peer: -1, Gen: 1}: true, {Peer: -1, Gen: 60000}: true, {Peer: -1, Gen: 60001}: false, {Peer: -1, Gen: -1}: false,
			{Peer: 0, Gen: 1}: true, {Peer: 3, Gen: 60000}: true, {Peer: 3, Gen: 60001}: false, {Peer: 0, Gen: 0}: false, {Peer: 0, Gen: -1}: false,
			{Peer: -1, Gen: math.MinInt}: false, {Peer: -1, Gen: math.MaxInt}: false, {Peer: 0, Gen: math.MinInt}: false, {Peer: 0, Gen: math.MaxInt}: false,
			{Peer: -2, Gen: 1}: false, {Peer: 12, Gen: 1}: false, {Peer: math.MinInt, Gen: 1}: false, {Peer: math.MaxInt, Gen: 1}: false,
			{Peer: slot + 4, Gen: 1}: true, {Peer: (slot+1)%8 + 4, Gen: 1}: false, {Peer: (slot+7)%8 + 4, Gen: 1}: false,
		} {
			r := full()
			if r.Seats[slot] = seat; May(r) != want {
				t.Errorf("slot %d, %+v: %v", slot, seat, !want)
			}
			holds(t, r)
		}
	}
	if May(api.Roster{}) {
		t.Error("peer 0 has all slots")
	}
}

// Promises 8.1 and 8.3: no peer has two slots, whichever peer and slots they
// are; that nobody has several is no fault.
func TestHadTwice(t *testing.T) {
	for peer := range api.MaxPeers {
		for slot := range api.Slots {
			for other := range slot {
				r := New()
				r.Seats[slot] = api.Seat{Peer: peer, Gen: 2}
				r.Seats[other].Gen = 7
				if !May(r) || Of(r, peer) != slot || Mask(r) != 1<<slot {
					t.Fatalf("%+v: May %v, Of %d, Mask %#x", r, May(r), Of(r, peer), Mask(r))
				}
				r.Seats[other].Peer = peer
				if May(r) || Of(r, peer) != -1 || Free(r) != -1 || Mask(r) != 0 {
					t.Fatalf("%+v: May %v, Of %d, Free %d, Mask %#x", r, May(r), Of(r, peer), Free(r), Mask(r))
				}
				holds(t, r)
			}
		}
	}
}

// Promise 8.1: all come, by the slot that is free, until nobody finds one; a
// slot that was given less often goes ahead of one that has just been given back.
func TestAllComeAndGo(t *testing.T) {
	r, code := New(), 0
	for peer := range api.Slots {
		if free := Free(r); free != peer || Mask(r) != 1<<peer-1 {
			t.Fatalf("%d are there: Free %d, Mask %#x", peer, free, Mask(r))
		}
		if r, code = Take(r, Free(r), peer); code != api.OK {
			t.Fatalf("peer %d: %d", peer, code)
		}
		holds(t, r)
	}
	if got, code := Take(r, Free(r), 8); Free(r) != -1 || code != api.ErrArg || got != r {
		t.Errorf("the ninth: Free %d, %+v, %d", Free(r), got, code)
	}
	for n, slot := range []int{6, 2, 6, 2, 5} { // each gives its slot back, and another has it at once
		r, code = Give(r, slot)
		if code != api.OK || Free(r) != slot || Mask(r) != 255-1<<slot {
			t.Fatalf("slot %d: %d, Free %d, Mask %#x", slot, code, Free(r), Mask(r))
		}
		if r, code = Take(r, slot, []int{8, 9, 10, 11, 6}[n]); code != api.OK {
			t.Fatalf("slot %d: %d", slot, code)
		}
		holds(t, r)
	}
	for _, slot := range []int{2, 6, 5, 7} {
		r, _ = Give(r, slot)
	}
	if r.Version != 22 || r.Seats[2].Gen != 3 || r.Seats[5].Gen != 2 || Free(r) != 7 {
		t.Errorf("%+v: Free %d", r, Free(r))
	}
}

// Promise 8.1: the slot that was given least often, the first of these; none
// that was given as often as may be.
func TestFree(t *testing.T) {
	for want, gens := range map[int][api.Slots]int{
		0: {}, 3: {5, 4, 4, 3, 3, 3, 9, 60000}, 7: {1, 1, 1, 1, 1, 1, 1, 0}, 6: {60000, 60000, 60000, 60000, 60000, 60000, 59999, 60000},
		-1: {60000, 60000, 60000, 60000, 60000, 60000, 60000, 60000},
	} {
		r := New()
		for i, gen := range gens {
			r.Seats[i].Gen = gen
		}
		if got := Free(r); got != want {
			t.Errorf("%v: %d, not %d", gens, got, want)
		}
		holds(t, r)
	}
	for slot := range api.Slots {
		r := full()
		if r.Seats[slot] = (api.Seat{Peer: -1, Gen: 59999}); Free(r) != slot || Mask(r) != 255-1<<slot {
			t.Errorf("only slot %d: %d, %#x", slot, Free(r), Mask(r))
		}
		holds(t, r)
	}
	if Free(full()) != -1 || Mask(full()) != 255 {
		t.Errorf("all have slots: %d, %#x", Free(full()), Mask(full()))
	}
}

// Promise 8.2: each time that a slot is given has its number; so has each change.
func TestTakeAndGive(t *testing.T) {
	r, code := Take(New(), 0, 3)
	if code != api.OK || r.Seats[0] != (api.Seat{Peer: 3, Gen: 1}) || r.Version != 1 || Of(r, 3) != 0 || Mask(r) != 1 {
		t.Errorf("%+v, %d", r, code)
	}
	holds(t, r)
	r, code = Give(r, 0)
	if code != api.OK || r.Seats[0] != (api.Seat{Peer: -1, Gen: 1}) || r.Version != 2 || Of(r, 3) != -1 || Free(r) != 1 {
		t.Errorf("%+v, %d", r, code)
	}
	holds(t, r)
	r, code = Take(r, 0, 11)
	if code != api.OK || r.Seats[0] != (api.Seat{Peer: 11, Gen: 2}) || r.Version != 3 {
		t.Errorf("%+v, %d", r, code)
	}
	holds(t, r)
	last := full()
	last.Seats[5] = api.Seat{Peer: -1, Gen: 59999}
	if _, code := Take(last, 5, 0); code != api.ErrArg {
		t.Errorf("it changed as often as may be: %d", code)
	}
	last.Version--
	if n, code := Take(last, 5, 0); code != api.OK || n.Seats[5] != (api.Seat{Peer: 0, Gen: 60000}) || n.Version != 1<<30 {
		t.Errorf("the last change: %+v, %d", n, code)
	}
	holds(t, last)
}

// Promise 8.2: an event is the one that can be then, or none.
func TestApply(t *testing.T) {
	r, _ := Take(New(), 2, 5)
	for e, want := range map[api.Event]int{
		{Kind: api.Join, Slot: 0, Gen: 1, Peer: 3}: 0, {Kind: api.Join, Slot: 0, Gen: 0, Peer: 3}: 1, {Kind: api.Join, Slot: 0, Gen: 2, Peer: 3}: 1,
		{Kind: api.Join, Slot: 2, Gen: 2, Peer: 3}: 1, {Kind: api.Join, Slot: 0, Gen: 1, Peer: 5}: 1, {Kind: api.Join, Slot: 8, Gen: 1, Peer: 3}: 1,
		{Kind: api.Leave, Slot: 2, Gen: 1, Peer: 5}: 0, {Kind: api.Leave, Slot: 2, Gen: 2, Peer: 5}: 1, {Kind: api.Leave, Slot: 2, Gen: 1, Peer: 4}: 1,
		{Kind: api.Leave, Slot: 0, Gen: 0, Peer: -1}: 1, {Kind: api.Leave, Slot: -1, Gen: 1, Peer: 5}: 1,
		{Slot: 2, Gen: 1, Peer: 5}: 1, {Kind: 3, Slot: 2, Gen: 1, Peer: 5}: 1, {Kind: -2, Slot: 2, Gen: 1, Peer: 5}: 1,
	} {
		n, code := Apply(r, e)
		if code != want || (n == r) != (want == api.ErrArg) {
			t.Errorf("%+v: %+v, %d", e, n, code)
		}
	}
}

// Promise 8.3, T2: the times of a slot are numbered without a gap, to the last
// one; behind it nobody has it any more, and all others go on.
func TestEveryTime(t *testing.T) {
	r, code := New(), 0
	for gen := 1; gen <= 60000; gen++ {
		peer := gen % 12
		if r, code = Take(r, 4, peer); code != api.OK || r.Seats[4] != (api.Seat{Peer: peer, Gen: gen}) || r.Version != 2*gen-1 {
			t.Fatalf("time %d: %+v, %d", gen, r, code)
		}
		if r, code = Give(r, 4); code != api.OK || r.Seats[4] != (api.Seat{Peer: -1, Gen: gen}) || r.Version != 2*gen {
			t.Fatalf("time %d, given back: %+v, %d", gen, r, code)
		}
	}
	if got, code := Take(r, 4, 0); code != api.ErrArg || got != r || Free(r) != 0 {
		t.Errorf("behind the last time: %+v, %d", got, code)
	}
	if got, code := Apply(r, api.Event{Kind: api.Join, Slot: 4, Gen: 60001}); code != api.ErrArg || got != r {
		t.Errorf("an event behind the last time: %+v, %d", got, code)
	}
	holds(t, r)
}

// Promise 8.3, T2: what was once doesn't come again: an event that comes twice,
// or late, changes nothing, whoever has the slot then.
func TestEventsOnceOnly(t *testing.T) {
	by := rand.New(rand.NewPCG(8, 2))
	r := New()
	var past []api.Event
	for range 1500 {
		slot, peer := by.IntN(8), by.IntN(12)
		e := api.Event{Kind: api.Join, Slot: slot, Gen: r.Seats[slot].Gen + 1, Peer: peer}
		if r.Seats[slot].Peer != -1 {
			e = api.Event{Kind: api.Leave, Slot: slot, Gen: r.Seats[slot].Gen, Peer: r.Seats[slot].Peer}
		}
		next, code := Apply(r, e)
		if code != api.OK {
			continue // the peer is in another slot
		}
		r, past = next, append(past, e)
		for _, old := range past {
			if got, code := Apply(r, old); code != api.ErrArg || got != r {
				t.Fatalf("%+v and %+v, which was: %+v, %d", r, old, got, code)
			}
		}
	}
	again := New()
	for _, e := range past { // the same events make the same roster, for whoever hears them
		again, _ = Apply(again, e)
	}
	if again != r || r.Version != len(past) || len(past) < 500 {
		t.Errorf("behind %d events: %+v, not %+v", len(past), again, r)
	}
}

// turns are who has which slot, as a list of what went on tells it: nothing of
// the rosters that were answered.
type turns struct {
	has   map[int]int // by slots: the peer
	times map[int]int // by slots: how often it was given
}

// goOn tells whether e may be next, and lets it be.
func (o *turns) goOn(e api.Event) bool {
	peer, had := o.has[e.Slot]
	if e.Kind == api.Leave {
		delete(o.has, e.Slot)
		return had && peer == e.Peer && o.times[e.Slot] == e.Gen
	}
	for _, other := range o.has {
		had = had || other == e.Peer
	}
	o.has[e.Slot] = e.Peer
	o.times[e.Slot]++
	return !had && o.times[e.Slot] == e.Gen
}

// Promise 8.3: however it goes on, no slot is had twice at once, no peer has
// two, and no number of a slot comes again.
func TestEachTimeItsNumber(t *testing.T) {
	by := rand.New(rand.NewPCG(8, 3))
	r := New()
	seen := turns{map[int]int{}, map[int]int{}}
	joins := 0
	for n := range 20_000 {
		slot, peer := by.IntN(10)-1, by.IntN(14)-1
		e := api.Event{Kind: 1 + by.IntN(2), Slot: slot, Peer: peer, Gen: by.IntN(4)}
		if 0 <= slot && slot < 8 {
			e.Gen = r.Seats[slot].Gen + 2 - e.Kind
			if e.Kind == api.Leave && by.IntN(4) == 0 {
				e.Peer = r.Seats[slot].Peer
			}
		}
		next, code := Apply(r, e)
		want, ok := wantApply(r, e)
		if next != want || code != ok || !May(next) {
			t.Fatalf("%+v and %+v: %+v, %d, not %+v, %d", r, e, next, code, want, ok)
		}
		if code == api.OK && !seen.goOn(e) {
			t.Fatalf("%+v and %+v: it can't be next, and is", r, e)
		}
		if code == api.OK && e.Kind == api.Join {
			joins++
		}
		if r = next; n%100 == 0 {
			holds(t, r)
		}
	}
	if joins < 1000 || r.Version < 2000 {
		t.Errorf("too little went on: %d, %+v", joins, r)
	}
}

// anyRoster is a roster of which most parts may be.
func anyRoster(by chance) api.Roster {
	r := api.Roster{Version: by.IntN(1<<30 + 1)}
	for i, peer := range by.Perm(12)[:8] {
		r.Seats[i] = api.Seat{Peer: peer, Gen: []int{1 + by.IntN(60000), 1, 60000, 59999}[by.IntN(4)]}
		if by.IntN(2) == 0 {
			r.Seats[i].Peer = -1
		}
	}
	return r
}

// Promises 8.1 to 8.3: rosters by chance, of which some part is anything.
func FuzzAll(f *testing.F) {
	for part := range uint8(6) {
		f.Add(uint64(part), part, int64(part)-2)
	}
	f.Fuzz(func(t *testing.T, seed uint64, part uint8, v int64) {
		by := rand.New(rand.NewPCG(seed, 8))
		r := anyRoster(by)
		if !May(r) {
			t.Fatalf("%+v may be", r)
		}
		holds(t, r)
		switch seat := &r.Seats[by.IntN(8)]; part % 4 {
		case 0:
			r.Version = int(v)
		case 1:
			seat.Peer = int(v)
		case 2:
			seat.Gen = int(v)
		case 3:
			*seat = r.Seats[by.IntN(8)]
		}
		holds(t, r)
	})
}
