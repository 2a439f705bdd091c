package entry

import (
	"math"
	"math/rand/v2"
	"slices"
	"testing"

	"ceilidh/api"
)

// changes are ways to turn one part of an entry that has all of them.
func changes() []func(e *api.Entry) {
	list := []func(e *api.Entry){
		func(e *api.Entry) { e.Frame-- },
		func(e *api.Entry) { e.Frame += 1 << 16 },
		func(e *api.Entry) { e.Events = nil },
		func(e *api.Entry) { e.Events = e.Events[1:] },
		func(e *api.Entry) { e.Events = append(e.Events, e.Events[0]) },
		func(e *api.Entry) { e.Events = append(e.Events, api.Event{}) },
		func(e *api.Entry) { slices.Reverse(e.Events) },
	}
	for i := range most().Events {
		list = append(list,
			func(e *api.Entry) { e.Events[i].Kind ^= 1 },
			func(e *api.Entry) { e.Events[i].Slot++ },
			func(e *api.Entry) { e.Events[i].Gen-- },
			func(e *api.Entry) { e.Events[i].Peer-- },
			func(e *api.Entry) { e.Events = slices.Delete(e.Events, i, i+1) },
		)
	}
	for slot := range api.Slots {
		list = append(list,
			func(e *api.Entry) { e.Inputs[slot].X++ },
			func(e *api.Entry) { e.Inputs[slot].Y = -e.Inputs[slot].Y },
			func(e *api.Entry) { e.Inputs[slot].B = 0 },
			func(e *api.Entry) { e.Inputs[slot] = api.Input{} },
		)
	}
	return list
}

// Promise 9.2: each part counts, by itself.
func TestSame(t *testing.T) {
	for i, change := range changes() {
		a, b := most(), most()
		if !Same(a, b) || !Same(b, a) {
			t.Fatal("the same, made twice")
		}
		if change(&b); Same(a, b) || Same(b, a) || !Same(b, b) || !Same(a, most()) {
			t.Errorf("change %d", i)
		}
	}
}

// Promise 9.2: no events are no events; and entries that may not be are the same,
// or not, as others are.
func TestSameOfWhatMayNotBe(t *testing.T) {
	kinds := []api.Entry{
		{}, {Frame: -1}, {Frame: math.MinInt}, {Frame: math.MaxInt},
		{Events: make([]api.Event, 1)}, {Events: make([]api.Event, 300)},
		{Inputs: [8]api.Input{{X: -128}}}, {Inputs: [8]api.Input{{Y: -128}}}, {Inputs: [8]api.Input{7: {X: -128}}},
	}
	for i, a := range kinds {
		for j, b := range kinds {
			if Same(a, b) != (i == j) {
				t.Errorf("%d and %d: %v", i, j, Same(a, b))
			}
		}
	}
	if !Same(api.Entry{Events: []api.Event{}}, api.Entry{}) || !Same(api.Entry{}, api.Entry{Events: make([]api.Event, 0, 9)}) {
		t.Error("nil and empty")
	}
}

// anyLog is a log by chance.
func anyLog(r chance, size int) []api.Entry {
	log := make([]api.Entry, size)
	for i := range log {
		log[i] = anyEntry(r)
	}
	return log
}

// Promise 9.2: what is cut behind is a beginning; what goes on, or differs
// anywhere, is none.
func TestFront(t *testing.T) {
	r := rand.New(rand.NewPCG(9, 2))
	for size := range 12 {
		log := anyLog(r, size)
		for n := range size + 1 {
			front := slices.Clone(log[:n])
			if !Front(front, log) || !Front(log[:n], log) {
				t.Errorf("%d of %d: no beginning", n, size)
			}
			if Front(log, front) != (n == size) {
				t.Errorf("%d ahead of %d: a beginning", size, n)
			}
			if n > 0 && (Front(log[:n:n], nil) || Front(front, front[:n-1])) {
				t.Errorf("%d are no beginning of fewer", n)
			}
			for at := range front {
				was := front[at]
				front[at].Frame ^= 1
				if Front(front, log) || Front(log, front) {
					t.Errorf("%d of %d, and %d differs: a beginning", n, size, at)
				}
				front[at] = was
			}
		}
		if size > 1 && Front(log[1:], log) {
			t.Errorf("%d: what is behind is no beginning", size)
		}
	}
}

// Promise 9.2: entries of a beginning are the same in all parts; nothing is a
// beginning of all, and only nothing is one of nothing.
func TestFrontOfEachPart(t *testing.T) {
	for i, change := range changes() {
		a, b := []api.Entry{{}, most()}, []api.Entry{{}, most(), {}}
		if change(&b[1]); Front(a, b) || !Front(a[:1], b) {
			t.Errorf("change %d", i)
		}
	}
	none, one := []api.Entry{}, []api.Entry{{}}
	for _, nothing := range [][]api.Entry{nil, none} {
		if !Front(nothing, nil) || !Front(nothing, none) || !Front(nothing, one) || Front(one, nothing) {
			t.Error("nothing")
		}
	}
	if !Front([]api.Entry{{Frame: -1}}, []api.Entry{{Frame: -1, Events: []api.Event{}}, {}}) {
		t.Error("what may not be is the same too")
	}
}

// Promise 9.2: neither changes what is handed in, nor what lies behind it.
func TestSameAndFrontOnlyRead(t *testing.T) {
	room := []api.Entry{most(), some(), {}, most()}
	Same(room[0], room[1])
	Front(room[:2], room[1:3])
	Front(room[:3], room[:3])
	for i, want := range []api.Entry{most(), some(), {}, most()} {
		if !wantSame(room[i], want) {
			t.Errorf("%d: %+v", i, room[i])
		}
	}
}
