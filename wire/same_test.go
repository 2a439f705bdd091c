package wire

import (
	"math"
	"slices"
	"testing"

	"ceilidh/api"
)

// full is a message with all parts, of which no kind has all: Same asks no May.
func full() api.Msg {
	return api.Msg{
		Kind: 1, From: 2, Serial: 3, Ack: 4, Seen: 5, Slot: 6, Gen: 7, Frame: 8, Code: 9, N: 10, Of: 11, Bits: 12, Sum: 13,
		Inputs: []api.Input{{X: 14, Y: 15, B: 16}, {X: 17, Y: 18, B: 19}},
		Log:    []api.Entry{entryOf(20, 2, 8), entryOf(21, 0, 1)},
		Data:   []byte{22, 23},
	}
}

// changes are ways to turn one part of full.
func changes() []func(m *api.Msg) {
	list := []func(m *api.Msg){
		func(m *api.Msg) { m.Serial ^= 1 << 15 },
		func(m *api.Msg) { m.Ack ^= 1 << 15 },
		func(m *api.Msg) { m.Seen ^= 1 << 31 },
		func(m *api.Msg) { m.Bits ^= 1 << 31 },
		func(m *api.Msg) { m.Sum ^= 1 << 63 },
		func(m *api.Msg) { m.Serial++ },
		func(m *api.Msg) { m.Ack++ },
		func(m *api.Msg) { m.Seen++ },
		func(m *api.Msg) { m.Bits++ },
		func(m *api.Msg) { m.Sum++ },
		func(m *api.Msg) { m.Inputs = nil },
		func(m *api.Msg) { m.Inputs = m.Inputs[1:] },
		func(m *api.Msg) { m.Inputs = m.Inputs[:1] },
		func(m *api.Msg) { m.Inputs = append(m.Inputs, api.Input{}) },
		func(m *api.Msg) { slices.Reverse(m.Inputs) },
		func(m *api.Msg) { m.Log = nil },
		func(m *api.Msg) { m.Log = m.Log[1:] },
		func(m *api.Msg) { m.Log = m.Log[:1] },
		func(m *api.Msg) { m.Log = append(m.Log, api.Entry{}) },
		func(m *api.Msg) { slices.Reverse(m.Log) },
		func(m *api.Msg) { m.Data = nil },
		func(m *api.Msg) { m.Data = m.Data[1:] },
		func(m *api.Msg) { m.Data = m.Data[:1] },
		func(m *api.Msg) { m.Data = append(m.Data, 0) },
		func(m *api.Msg) { slices.Reverse(m.Data) },
	}
	for _, set := range setters() {
		for _, v := range []int{-1, 0, 100, 1 << 16, math.MinInt, math.MaxInt} {
			list = append(list, func(m *api.Msg) { set(m, v) })
		}
	}
	for i := range 2 {
		list = append(list,
			func(m *api.Msg) { m.Inputs[i].X++ },
			func(m *api.Msg) { m.Inputs[i].Y++ },
			func(m *api.Msg) { m.Inputs[i].B++ },
			func(m *api.Msg) { m.Log[i].Frame++ },
			func(m *api.Msg) { m.Log[i].Inputs[0].B++ },
			func(m *api.Msg) { m.Log[i].Inputs[7].X++ },
			func(m *api.Msg) { m.Log[i].Events = append(m.Log[i].Events, api.Event{}) },
			func(m *api.Msg) { m.Log[0].Events[i].Kind++ },
			func(m *api.Msg) { m.Log[0].Events[i].Slot++ },
			func(m *api.Msg) { m.Log[0].Events[i].Gen++ },
			func(m *api.Msg) { m.Log[0].Events[i].Peer++ },
			func(m *api.Msg) { m.Data[i]++ },
		)
	}
	return list
}

// Promise 12.3: each part counts, by itself, whatever the kind.
func TestSame(t *testing.T) {
	for i, change := range changes() {
		a, b := full(), full()
		if !Same(a, b) || !Same(b, a) {
			t.Fatal("the same, made twice")
		}
		if change(&b); Same(a, b) || Same(b, a) || !Same(b, b) || !Same(a, full()) {
			t.Errorf("change %d: %+v", i, b)
		}
	}
}

// Promise 12.3: of each kind, the same, and no other.
func TestSameOfKinds(t *testing.T) {
	list := slices.Concat(some(), most(), []api.Msg{{}, full()})
	for i, a := range list {
		for j, b := range list {
			if Same(plain(a), b) != (i == j) {
				t.Errorf("%d and %d: %t", i, j, i != j)
			}
		}
	}
}

// Promise 12.3: no list is the same as an empty one; neither message is changed.
func TestSameOfNothing(t *testing.T) {
	none := api.Msg{Inputs: []api.Input{}, Log: []api.Entry{}, Data: []byte{}}
	if !Same(none, api.Msg{}) || !Same(api.Msg{}, none) || !Same(api.Msg{}, api.Msg{}) {
		t.Error("no list, and an empty one")
	}
	with := api.Msg{Log: []api.Entry{{Events: []api.Event{}}}}
	if !Same(with, api.Msg{Log: []api.Entry{{}}}) {
		t.Error("no events, and an empty list of them")
	}
	a, b := roomy(full()), roomy(full())
	Same(a, b)
	Same(b, api.Msg{})
	if !wantSame(whole(a), whole(roomy(full()))) || !wantSame(whole(b), whole(roomy(full()))) {
		t.Error("what was compared is changed")
	}
}
