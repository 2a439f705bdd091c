package wire

import (
	"math"
	"reflect"
	"slices"
	"strconv"
	"testing"

	"ceilidh/api"
)

// setters set a part of a message that is a number.
func setters() map[string]func(m *api.Msg, v int) {
	return map[string]func(m *api.Msg, v int){
		"Kind":  func(m *api.Msg, v int) { m.Kind = v },
		"From":  func(m *api.Msg, v int) { m.From = v },
		"Slot":  func(m *api.Msg, v int) { m.Slot = v },
		"Gen":   func(m *api.Msg, v int) { m.Gen = v },
		"Frame": func(m *api.Msg, v int) { m.Frame = v },
		"Code":  func(m *api.Msg, v int) { m.Code = v },
		"N":     func(m *api.Msg, v int) { m.N = v },
		"Of":    func(m *api.Msg, v int) { m.Of = v },
	}
}

// Promise 12.2: there are fourteen kinds, and no other.
func TestMayOfKinds(t *testing.T) {
	for _, list := range [][]api.Msg{some(), most()} {
		if len(list) != 14 {
			t.Fatalf("%d kinds", len(list))
		}
		for i, m := range list {
			if m.Kind != i+1 || !May(m) {
				t.Errorf("%+v: may not be", m)
			}
		}
	}
	for _, kind := range []int{math.MinInt, -256, -1, 0, 15, 16, 255, 256, 257, 270, math.MaxInt} {
		if May(api.Msg{Kind: kind}) || holdsPut(t, api.Msg{Kind: kind}) != api.ErrArg {
			t.Errorf("Kind %d may be", kind)
		}
	}
	if May(api.Msg{}) {
		t.Error("nothing may be")
	}
}

// Promise 12.2: what the chapter tells of each part that is a number, by hand, of
// each kind that has it: its least, its most, and what is beside them.
func TestMayOfLimits(t *testing.T) {
	limits := map[string][2]int{
		"From": {0, 11}, "Slot": {0, 7}, "Gen": {1, 60000}, "Frame": {0, 1 << 20}, "Code": {0, 9}, "N": {0, 65535}, "Of": {1, 65535},
	}
	for part, limit := range limits {
		for _, m := range some() {
			if part != "From" && !wantHas(m.Kind, part) || part == "Frame" && m.Kind == api.MLog {
				continue
			}
			for _, v := range []int{limit[0] - 1, limit[0], limit[0] + 1, limit[1] - 1, limit[1], limit[1] + 1, -1, math.MinInt, math.MaxInt, math.MaxInt32} {
				x := m
				setters()[part](&x, v)
				if x.Kind == api.MChunk && (part == "N" || part == "Of") {
					continue // they hang together: see below
				}
				if want := limit[0] <= v && v <= limit[1]; May(x) != want {
					t.Errorf("kind %d, %s %d: %t", m.Kind, part, v, !want)
				}
				holdsPut(t, x)
			}
		}
	}
}

// Promise 12.2: of a chunk, Of is above N, and both have their limits.
func TestMayOfChunks(t *testing.T) {
	numbers := []int{math.MinInt, -65536, -1, 0, 1, 2, 100, 255, 256, 65533, 65534, 65535, 65536, 65537, 131072, math.MaxInt}
	for _, n := range numbers {
		for _, of := range numbers {
			m := api.Msg{Kind: api.MChunk, N: n, Of: of, Data: []byte{0}}
			if want := 0 <= n && n < of && of <= 65535; May(m) != want {
				t.Errorf("%d of %d: %t", n, of, !want)
			}
			holdsPut(t, m)
		}
	}
}

// Promise 12.2: what a kind has no part of is nothing there, whatever it is
// elsewhere; Serial, Ack and Seen all have, whatever they are.
func TestMayOfOthersParts(t *testing.T) {
	donor := api.Msg{
		Slot: 1, Gen: 1, Frame: 1, Code: 1, N: 1, Of: 2, Bits: 1 << 31, Sum: 1 << 63,
		Inputs: make([]api.Input, 1), Log: make([]api.Entry, 1), Data: make([]byte, 1),
	}
	for _, m := range some() {
		for _, part := range ownParts() {
			x := m
			reflect.ValueOf(&x).Elem().FieldByName(part).Set(reflect.ValueOf(donor).FieldByName(part))
			if !wantHas(m.Kind, part) && (May(x) || holdsPut(t, x) != api.ErrArg) {
				t.Errorf("kind %d with %s may be", m.Kind, part)
			}
			holdsPut(t, x)
		}
		for name, set := range setters() {
			for _, v := range []int{-1, 1, math.MinInt, math.MaxInt, 256, 65536} {
				x := m
				set(&x, v)
				holdsPut(t, x)
				if slices.Contains(ownParts(), name) && !wantHas(m.Kind, name) && May(x) {
					t.Errorf("kind %d with %s %d may be", m.Kind, name, v)
				}
			}
		}
		m.Inputs, m.Log, m.Data = append([]api.Input{}, m.Inputs...), append([]api.Entry{}, m.Log...), append([]byte{}, m.Data...)
		for _, v := range []uint32{0, 1, 65535, 1<<32 - 1} {
			m.Serial, m.Ack, m.Seen = uint16(v), uint16(^v), v
			if !May(m) {
				t.Errorf("kind %d, Seen %d, empty lists: may not be", m.Kind, v)
			}
			holdsPut(t, m)
		}
	}
}

// Promise 12.2: one to sixteen inputs, each of which may be.
func TestMayOfInputs(t *testing.T) {
	for _, size := range []int{0, 1, 2, 15, 16, 17, 255, 256, 257, 272, 100_000} {
		m := api.Msg{Kind: api.MInputs, Gen: 1, Inputs: make([]api.Input, size)}
		if want := 1 <= size && size <= 16; May(m) != want {
			t.Errorf("%d inputs: %t", size, !want)
		}
		holdsPut(t, m)
		if size > 16 {
			continue
		}
		for i := range m.Inputs {
			for _, in := range []api.Input{{X: -128}, {Y: -128}, {X: -128, Y: -128, B: 1}} {
				x := plain(m)
				if x.Inputs[i] = in; May(x) {
					t.Errorf("%d inputs, %d is %+v: may be", size, i, in)
				}
				holdsPut(t, x)
			}
		}
	}
	last := api.Msg{Kind: api.MInputs, Gen: 1, Frame: api.MaxFrame, Inputs: make([]api.Input, 16)}
	if !May(last) {
		t.Error("from the last frame on: the chapter asks the first one's only")
	}
}

// Promise 12.2: one to sixteen entries, each of which may be, of the frames one
// behind the other.
func TestMayOfLogs(t *testing.T) {
	logOf := func(frame, size int) api.Msg {
		m := api.Msg{Kind: api.MLog, Frame: frame}
		for i := range size {
			m.Log = append(m.Log, entryOf(frame+i, i%7, i%9))
		}
		return m
	}
	for _, size := range []int{0, 1, 2, 15, 16, 17, 255, 256, 257, 272, 10_000} {
		m := logOf(3, size)
		if want := 1 <= size && size <= 16; May(m) != want {
			t.Errorf("%d entries: %t", size, !want)
		}
		holdsPut(t, m)
		if size > 16 {
			continue
		}
		for i := range m.Log {
			for j, turn := range []func(e *api.Entry){
				func(e *api.Entry) { e.Frame++ },
				func(e *api.Entry) { e.Frame-- },
				func(e *api.Entry) { e.Frame = -1 },
				func(e *api.Entry) { e.Frame = 0 },
				func(e *api.Entry) { e.Inputs[7].X = -128 },
				func(e *api.Entry) { e.Events = make([]api.Event, 1) },
			} {
				x := plain(m)
				if turn(&x.Log[i]); May(x) {
					t.Errorf("%d entries, %d is turned by %d: may be", size, i, j)
				}
				holdsPut(t, x)
			}
		}
	}
	for _, frame := range []int{math.MinInt, -1, 0, 1<<20 - 17, 1<<20 - 16, 1<<20 - 15, 1<<20 - 1, 1 << 20, math.MaxInt - 3} {
		if want := 0 <= frame && frame <= 1<<20-16; May(logOf(frame, 16)) != want {
			t.Errorf("16 entries from %d on: %t", frame, !want)
		}
		holdsPut(t, logOf(frame, 16))
		holdsPut(t, logOf(frame, 1))
	}
}

// Promise 12.2: one to 64 bytes, whichever they are.
func TestMayOfData(t *testing.T) {
	for _, size := range []int{0, 1, 2, 63, 64, 65, 255, 256, 257, 320, 100_000} {
		m := api.Msg{Kind: api.MChunk, Of: 1, Data: make([]byte, size)}
		if want := 1 <= size && size <= 64; May(m) != want {
			t.Errorf("%d bytes: %t", size, !want)
		}
		holdsPut(t, m)
	}
	for v := range 256 {
		if m := (api.Msg{Kind: api.MChunk, Of: 1, Data: []byte{byte(v)}}); !May(m) || holdsPut(t, m) != api.OK {
			t.Errorf("byte %d: may not be", v)
		}
	}
}

// Promises 12.2, 12.3: what is beyond its limits is not put, also where it is
// beyond the bytes that there are for it and would look as if it were within.
func TestNotPut(t *testing.T) {
	for _, m := range some() {
		for _, set := range setters() {
			for _, bit := range []int{0, 8, 16, 32, strconv.IntSize - 1} {
				for near := -3; near < 16; near++ {
					wide := 1
					wide <<= bit // 0, where an int is that short
					x := m
					set(&x, wide+near)
					holdsPut(t, x)
				}
			}
		}
	}
}
