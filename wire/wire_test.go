package wire

import (
	"bytes"
	"encoding/binary"
	"fmt"
	"hash/crc32"
	"math/bits"
	"math/rand/v2"
	"reflect"
	"slices"
	"strings"
	"testing"

	"ceilidh/api"
	"ceilidh/entry"
)

type chance = *rand.Rand

// What the document tells of datagrams, by the layer below, and by nothing of this
// package's own.

// wantCheck is what promise 12.1 tells of Check, by the library's sums, which go
// from the lowest bit of a byte up instead of from the highest down.
func wantCheck(b []byte) uint32 {
	turned := make([]byte, len(b))
	for i, one := range b {
		turned[i] = bits.Reverse8(one)
	}
	table := crc32.MakeTable(bits.Reverse32(0x741B8CD7))
	return bits.Reverse32(^crc32.Update(0, table, turned))
}

// wantKinds is which parts promise 12.2 tells of each kind.
func wantKinds() map[int]string {
	return map[int]string{
		1:  "",
		2:  "Slot Gen Frame",
		3:  "Code",
		4:  "Slot Gen Frame Inputs",
		5:  "Frame Log",
		6:  "Frame",
		7:  "N Of Sum Frame Data",
		8:  "N Bits",
		9:  "",
		10: "Code",
		11: "N",
		12: "N",
		13: "Frame Sum",
		14: "",
	}
}

// wantHas tells whether promise 12.2 tells of a part of a kind.
func wantHas(kind int, part string) bool {
	return slices.Contains(strings.Fields(wantKinds()[kind]), part)
}

// ownParts are the parts that only some kinds have.
func ownParts() []string {
	return []string{"Slot", "Gen", "Frame", "Code", "N", "Of", "Bits", "Sum", "Inputs", "Log", "Data"}
}

// wantMay is what promise 12.2 tells of May.
func wantMay(m api.Msg) bool {
	ok := m.Kind >= 1 && m.Kind <= 14 && m.From >= 0 && m.From <= 11
	for _, part := range ownParts() {
		v := reflect.ValueOf(m).FieldByName(part)
		nothing := v.IsZero() || v.Kind() == reflect.Slice && v.Len() == 0
		ok = ok && (nothing || wantHas(m.Kind, part))
	}
	limits := func(part string, v, least, most int) {
		ok = ok && (!wantHas(m.Kind, part) || least <= v && v <= most)
	}
	limits("Slot", m.Slot, 0, 7)
	limits("Gen", m.Gen, 1, 60000)
	limits("Frame", m.Frame, 0, 1048576)
	limits("Code", m.Code, 0, 9)
	limits("N", m.N, 0, 65535)
	limits("Of", m.Of, 1, 65535)
	ok = ok && (!wantHas(m.Kind, "Of") || m.Of > m.N)
	limits("Inputs", len(m.Inputs), 1, 16)
	limits("Log", len(m.Log), 1, 16)
	limits("Data", len(m.Data), 1, 64)
	for _, in := range m.Inputs {
		ok = ok && in.X != -128 && in.Y != -128
	}
	for i, e := range m.Log {
		ok = ok && entry.May(e) && e.Frame == m.Frame+i
	}
	return ok
}

// wantRest is what promise 12.3 tells that stands behind the check of what may be.
func wantRest(m api.Msg) []byte {
	order := binary.LittleEndian
	b := []byte{byte(m.Kind), byte(m.From)}
	b = order.AppendUint16(b, m.Serial)
	b = order.AppendUint16(b, m.Ack)
	b = order.AppendUint32(b, m.Seen)
	for _, part := range ownParts() {
		if !wantHas(m.Kind, part) {
			continue
		}
		switch part {
		case "Slot":
			b = append(b, byte(m.Slot))
		case "Gen":
			b = order.AppendUint16(b, uint16(m.Gen))
		case "Frame":
			b = order.AppendUint32(b, uint32(m.Frame))
		case "Code":
			b = append(b, byte(m.Code))
		case "N":
			b = order.AppendUint16(b, uint16(m.N))
		case "Of":
			b = order.AppendUint16(b, uint16(m.Of))
		case "Bits":
			b = order.AppendUint32(b, m.Bits)
		case "Sum":
			b = order.AppendUint64(b, m.Sum)
		case "Inputs":
			b = append(b, byte(len(m.Inputs)))
			for _, in := range m.Inputs {
				b = append(b, byte(in.X), byte(in.Y), in.B)
			}
		case "Log":
			b = append(b, byte(len(m.Log)))
			for _, e := range m.Log {
				one, _ := entry.Put(e)
				b = append(order.AppendUint16(b, uint16(len(one))), one...)
			}
		case "Data":
			b = append(append(b, byte(len(m.Data))), m.Data...)
		}
	}
	return b
}

// sealed is rest with its check ahead of it.
func sealed(rest []byte) []byte {
	return append(binary.LittleEndian.AppendUint32(nil, wantCheck(rest)), rest...)
}

// wantPut is what promise 12.3 tells of Put.
func wantPut(m api.Msg) ([]byte, int) {
	if !wantMay(m) {
		return nil, 1
	}
	b := sealed(wantRest(m))
	if len(b) > 1200 {
		return nil, 4
	}
	return b, 0
}

// wantRead reads what stands behind a check as it lies there; what is missing is
// read as noughts.
func wantRead(b []byte) api.Msg {
	in := bytes.NewBuffer(slices.Clone(b))
	number := func(size int) uint64 {
		var all [8]byte
		copy(all[:], in.Next(size))
		return binary.LittleEndian.Uint64(all[:])
	}
	var m api.Msg
	m.Kind, m.From = int(number(1)), int(number(1))
	m.Serial, m.Ack, m.Seen = uint16(number(2)), uint16(number(2)), uint32(number(4))
	sizes := map[string]int{"Slot": 1, "Gen": 2, "Frame": 4, "Code": 1, "N": 2, "Of": 2, "Bits": 4, "Sum": 8}
	for _, part := range ownParts() {
		if !wantHas(m.Kind, part) {
			continue
		}
		field := reflect.ValueOf(&m).Elem().FieldByName(part)
		switch field.Kind() {
		case reflect.Int:
			field.SetInt(int64(number(sizes[part])))
		case reflect.Uint32, reflect.Uint64:
			field.SetUint(number(sizes[part]))
		}
		switch part {
		case "Inputs":
			for range number(1) {
				m.Inputs = append(m.Inputs, api.Input{X: int8(number(1)), Y: int8(number(1)), B: uint8(number(1))})
			}
		case "Log":
			for range number(1) {
				e, code := entry.Get(in.Next(int(number(2))))
				if code != 0 {
					e.Frame = -1 // may not be
				}
				m.Log = append(m.Log, e)
			}
		case "Data":
			m.Data = slices.Clone(in.Next(int(number(1))))
		}
	}
	return m
}

// wantGet is what promise 12.3 tells of Get: b is read as it lies there, and is
// nothing unless Put makes just that.
func wantGet(b []byte) (api.Msg, int) {
	if len(b) < 4 || binary.LittleEndian.Uint32(b) != wantCheck(b[4:]) {
		return api.Msg{}, 9
	}
	m := wantRead(b[4:])
	if again, code := wantPut(m); code != 0 || !bytes.Equal(again, b) {
		return api.Msg{}, 2
	}
	return m, 0
}

// plain is m with lists of its own, in which no list and an empty one are the same.
func plain(m api.Msg) api.Msg {
	m.Inputs = append([]api.Input{}, m.Inputs...)
	m.Log = append([]api.Entry{}, m.Log...)
	m.Data = append([]byte{}, m.Data...)
	for i := range m.Log {
		m.Log[i].Events = append([]api.Event{}, m.Log[i].Events...)
	}
	return m
}

// wantSame tells whether a and b are alike in all parts: a text has all of them.
func wantSame(a, b api.Msg) bool {
	return fmt.Sprintf("%#v", plain(a)) == fmt.Sprintf("%#v", plain(b))
}

// roomy is m with room behind each of its lists, that nobody may write in.
func roomy(m api.Msg) api.Msg {
	m = plain(m)
	m.Inputs = append(m.Inputs, make([]api.Input, 3)...)[:len(m.Inputs)]
	m.Log = append(m.Log, make([]api.Entry, 3)...)[:len(m.Log)]
	m.Data = append(m.Data, make([]byte, 3)...)[:len(m.Data)]
	for i := range m.Log {
		events := &m.Log[i].Events
		*events = append(*events, make([]api.Event, 3)...)[:len(*events)]
	}
	return m
}

// whole is m with its lists and the room behind them.
func whole(m api.Msg) api.Msg {
	m.Inputs = m.Inputs[:cap(m.Inputs)]
	m.Log = slices.Clone(m.Log[:cap(m.Log)])
	m.Data = m.Data[:cap(m.Data)]
	for i := range m.Log {
		m.Log[i].Events = m.Log[i].Events[:cap(m.Log[i].Events)]
	}
	return m
}

// holdsPut tells where May or Put of m isn't what is told of it, or where m was
// changed; holds what was put against what is got of it; and answers the code.
func holdsPut(t *testing.T, m api.Msg) int {
	t.Helper()
	m = roomy(m)
	before := plain(whole(m))
	b, code := Put(m)
	want, ok := wantPut(m)
	if code != ok || !bytes.Equal(b, want) || May(m) != wantMay(m) {
		t.Fatalf("Put(%+v):\n%x, %d, not\n%x, %d", m, b, code, want, ok)
	}
	if !wantSame(whole(m), before) {
		t.Fatalf("what was put is changed: %+v", m)
	}
	if code == 0 {
		holdsGet(t, b)
	}
	return code
}

// holdsGet tells where Get of b isn't what is told of it, or where b was changed,
// or what lies behind it was asked; and answers the code.
func holdsGet(t *testing.T, b []byte) int {
	t.Helper()
	room := append(slices.Clone(b), 1, 0, 0, 0, 0, 0, 0, 0, 0)
	before := slices.Clone(room)
	got, code := Get(room[:len(b)])
	want, ok := wantGet(b)
	if code != ok || !wantSame(got, want) {
		t.Fatalf("Get(%x):\n%+v, %d, not\n%+v, %d", b, got, code, want, ok)
	}
	if code == 0 {
		if again, code := Put(got); code != 0 || !bytes.Equal(again, b) {
			t.Fatalf("%x comes back as %x, %d", b, again, code)
		}
	}
	if !bytes.Equal(room, before) {
		t.Fatalf("what was got is changed: %x", b)
	}
	return code
}

// some are messages of all kinds, by kinds, in which hardly two numbers are alike.
func some() []api.Msg {
	first := api.Entry{
		Frame:  70000,
		Events: []api.Event{{Kind: 2, Slot: 3, Gen: 60000, Peer: 11}, {Kind: 1, Slot: 5, Gen: 0x102, Peer: 4}},
		Inputs: [8]api.Input{1: {X: -127, Y: 127, B: 5}, 7: {Y: 6}},
	}
	list := []api.Msg{
		{},
		{},
		{Slot: 7, Gen: 60000, Frame: 0x0a0b0c},
		{Code: 9},
		{Slot: 3, Gen: 0x1234, Frame: 1 << 20, Inputs: []api.Input{{X: -127, Y: 127, B: 255}, {}, {X: 1, Y: -1, B: 128}}},
		{Frame: 70000, Log: []api.Entry{first, {Frame: 70001}}},
		{Frame: 0x0f1e2d},
		{N: 0x1415, Of: 0x1617, Sum: 0xf1e2d3c4b5a69788, Frame: 70001, Data: []byte("piece")},
		{N: 65535, Bits: 0x80010203},
		{},
		{Code: 4},
		{N: 0x1819},
		{N: 65535},
		{Frame: 99, Sum: 0x0102030405060708},
		{},
	}
	for kind := range list {
		m := &list[kind]
		m.Kind, m.From = kind, kind*3%12
		m.Serial, m.Ack, m.Seen = 0x0201, 0xfefd, 0x13121110
	}
	return list[1:]
}

// most are messages of all kinds with all that there may be.
func most() []api.Msg {
	list := make([]api.Msg, 15)
	for kind := range list {
		m := &list[kind]
		m.Kind, m.From, m.Serial, m.Ack, m.Seen = kind, 11, 65535, 65535, 1<<32-1
		set := func(part string, v *int, to int) {
			if wantHas(kind, part) {
				*v = to
			}
		}
		set("Slot", &m.Slot, 7)
		set("Gen", &m.Gen, 60000)
		set("Frame", &m.Frame, 1<<20)
		set("Code", &m.Code, 9)
		set("N", &m.N, 65535)
		set("Of", &m.Of, 65535)
	}
	list[4].Inputs = slices.Repeat([]api.Input{{X: -127, Y: 127, B: 255}}, 16)
	list[5].Frame = 1<<20 - 16
	for i := range 16 {
		list[5].Log = append(list[5].Log, entryOf(list[5].Frame+i, 7, 8))
	}
	list[7].N--
	list[7].Sum, list[13].Sum = 1<<64-1, 1<<64-1
	list[7].Data = bytes.Repeat([]byte{255}, 64)
	list[8].Bits = 1<<32 - 1
	return list[1:]
}

// entryOf is an entry with so many events, and so many who do something.
func entryOf(frame, events, does int) api.Entry {
	e := api.Entry{Frame: frame}
	for i := range events {
		e.Events = append(e.Events, api.Event{Kind: 2 - i/8, Slot: i % 8, Gen: 60000 - i, Peer: 11 - i%8})
	}
	for slot := range does {
		e.Inputs[slot] = api.Input{X: -127, Y: 127, B: uint8(255 - slot)}
	}
	return e
}

// anyMsg is a message that may be, by chance, whose datagram is short enough.
func anyMsg(r chance) api.Msg {
	m := api.Msg{Kind: 1 + r.IntN(14), From: r.IntN(12), Serial: uint16(r.Uint32()), Ack: uint16(r.Uint32()), Seen: r.Uint32()}
	number := func(part string, v *int, least, most int) {
		if wantHas(m.Kind, part) {
			*v = least + r.IntN(most-least+1)
		}
	}
	number("Slot", &m.Slot, 0, 7)
	number("Gen", &m.Gen, 1, 60000)
	number("Frame", &m.Frame, 0, 1048576-16)
	number("Code", &m.Code, 0, 9)
	number("N", &m.N, 0, 65534)
	number("Of", &m.Of, m.N+1, 65535)
	if wantHas(m.Kind, "Bits") {
		m.Bits = r.Uint32()
	}
	if wantHas(m.Kind, "Sum") {
		m.Sum = r.Uint64()
	}
	size := 1 + r.IntN(16)
	switch m.Kind {
	case 4:
		for range size {
			m.Inputs = append(m.Inputs, api.Input{X: int8(r.IntN(255) - 127), Y: int8(r.IntN(3) - 1), B: uint8(r.IntN(256))})
		}
	case 5:
		for i := range size {
			m.Log = append(m.Log, entryOf(m.Frame+i, r.IntN(5), r.IntN(9)))
		}
	case 7:
		for range 1 + r.IntN(64) {
			m.Data = append(m.Data, byte(r.IntN(256)))
		}
	}
	return m
}
