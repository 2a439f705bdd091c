package entry

import (
	"math"
	"testing"

	"ceilidh/api"
)

// most is an entry with all that there may be: each slot is left, and joined.
func most() api.Entry {
	e := api.Entry{Frame: api.MaxFrame - 1}
	for _, kind := range []int{api.Leave, api.Join} {
		for slot := range api.Slots {
			e.Events = append(e.Events, api.Event{Kind: kind, Slot: slot, Gen: 60000, Peer: 11 - slot})
		}
	}
	for slot := range e.Inputs {
		e.Inputs[slot] = api.Input{X: -127, Y: 127, B: 255}
	}
	return e
}

// Promise 9.1: frames and inputs, at their limits and beside them.
func TestMayOfFramesAndInputs(t *testing.T) {
	if !May(api.Entry{}) || !May(most()) {
		t.Error("nothing, and all")
	}
	for frame, want := range map[int]bool{
		0: true, 1: true, 1<<20 - 1: true, 1 << 20: false, 1<<20 + 1: false, -1: false, math.MinInt: false, math.MaxInt: false,
	} {
		e := most()
		if e.Frame = frame; May(e) != want {
			t.Errorf("Frame %d: %v", frame, !want)
		}
	}
	for slot := range api.Slots {
		for in, want := range map[api.Input]bool{
			{X: -127, Y: -127}: true, {X: 127, Y: 127, B: 255}: true, {X: -128}: false, {Y: -128}: false, {X: -128, Y: -128, B: 1}: false,
		} {
			e := most()
			if e.Inputs[slot] = in; May(e) != want {
				t.Errorf("slot %d, %+v: %v", slot, in, !want)
			}
		}
	}
}

// Promise 9.1: each part of each event, at its limits and beside them.
func TestMayOfEvents(t *testing.T) {
	for i := range most().Events {
		set := map[string]func(event *api.Event, v int){
			"Gen":  func(event *api.Event, v int) { event.Gen = v },
			"Peer": func(event *api.Event, v int) { event.Peer = v },
		}
		for name, limits := range map[string][2]int{"Gen": {1, 60000}, "Peer": {0, 11}} {
			for _, v := range []int{-1, 0, 1, 11, 12, 59999, 60000, 60001, 65536, math.MinInt, math.MaxInt} {
				e := most()
				set[name](&e.Events[i], v)
				if want := limits[0] <= v && v <= limits[1]; May(e) != want {
					t.Errorf("event %d, %s %d: %v", i, name, v, !want)
				}
			}
		}
		for _, v := range []int{-2, -1, 0, 3, 4, math.MinInt, math.MaxInt} {
			e := most()
			if e.Events[i].Kind = v; May(e) {
				t.Errorf("event %d, Kind %d", i, v)
			}
		}
		for v := -2; v < 11; v++ {
			for _, kind := range []int{api.Join, api.Leave} {
				e := api.Entry{Events: []api.Event{{Kind: kind, Slot: v, Gen: 1}}}
				if want := 0 <= v && v <= 7; May(e) != want {
					t.Errorf("Kind %d, Slot %d: %v", kind, v, !want)
				}
			}
		}
	}
}

// Promise 9.1: first who leaves, then who joins, the slots of each rising: of
// any three events.
func TestMayOfRows(t *testing.T) {
	var kinds []api.Event
	for _, kind := range []int{api.Join, api.Leave} {
		for _, slot := range []int{0, 1, 2, 7} {
			kinds = append(kinds, api.Event{Kind: kind, Slot: slot, Gen: 1})
		}
	}
	before := func(a, b api.Event) bool {
		if a.Kind != b.Kind {
			return a.Kind == api.Leave
		}
		return a.Slot < b.Slot
	}
	for _, a := range kinds {
		for _, b := range kinds {
			if want := before(a, b); May(api.Entry{Events: []api.Event{a, b}}) != want {
				t.Errorf("%+v, %+v: %v", a, b, !want)
			}
			for _, c := range kinds {
				if want := before(a, b) && before(b, c); May(api.Entry{Events: []api.Event{a, b, c}}) != want {
					t.Errorf("%+v, %+v, %+v: %v", a, b, c, !want)
				}
			}
		}
	}
	e := most()
	for i := range e.Events {
		e.Events[0], e.Events[i] = e.Events[i], e.Events[0]
		if May(e) != (i == 0) {
			t.Errorf("events 0 and %d exchanged: %v", i, i != 0)
		}
		e.Events[0], e.Events[i] = e.Events[i], e.Events[0]
	}
	if e.Events = append(e.Events, e.Events[15]); May(e) {
		t.Error("an event twice")
	}
	if e.Events = make([]api.Event, 100_000); May(e) {
		t.Error("many events that are nothing")
	}
}
