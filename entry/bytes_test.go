package entry

import (
	"bytes"
	"encoding/binary"
	"encoding/hex"
	"fmt"
	"math"
	"math/bits"
	"math/rand/v2"
	"slices"
	"strconv"
	"sync"
	"testing"

	"ceilidh/api"
)

type chance = *rand.Rand

// What the document tells of an entry's bytes, by nothing of the program's own.

// wantMay is what promise 9.1 tells of May.
func wantMay(e api.Entry) bool {
	ok := e.Frame >= 0 && e.Frame < 1048576
	for i, v := range e.Events {
		ok = ok && (v.Kind == 1 || v.Kind == 2) && v.Slot >= 0 && v.Slot <= 7
		ok = ok && v.Gen >= 1 && v.Gen <= 60000 && v.Peer >= 0 && v.Peer <= 11
		if i > 0 {
			ahead := e.Events[i-1]
			ok = ok && (ahead.Kind == 2 && v.Kind == 1 || ahead.Kind == v.Kind && ahead.Slot < v.Slot)
		}
	}
	for _, in := range e.Inputs {
		ok = ok && in.X != -128 && in.Y != -128
	}
	return ok
}

// wantPut is what promise 9.1 tells of Put.
func wantPut(e api.Entry) ([]byte, int) {
	if !wantMay(e) {
		return nil, 1
	}
	b := binary.LittleEndian.AppendUint32(nil, uint32(e.Frame))
	b = append(b, byte(len(e.Events)))
	for _, v := range e.Events {
		b = append(b, byte(v.Kind), byte(v.Slot), byte(v.Gen), byte(v.Gen/256), byte(v.Peer))
	}
	at := len(b)
	b = append(b, 0)
	for i, in := range e.Inputs {
		if in.X != 0 || in.Y != 0 || in.B != 0 {
			b[at] += byte(math.Pow(2, float64(i)))
			b = append(b, byte(in.X), byte(in.Y), in.B)
		}
	}
	return b, 0
}

// wantGet is what promise 9.1 tells of Get: b is read as it lies there, and is
// nothing unless Put makes just that.
func wantGet(b []byte) (api.Entry, int) {
	var e api.Entry
	in := bytes.NewBuffer(slices.Clone(b))
	number := func(size int) int {
		var all [8]byte
		copy(all[:], in.Next(size))
		return int(binary.LittleEndian.Uint64(all[:]))
	}
	e.Frame = number(4)
	for range number(1) {
		e.Events = append(e.Events, api.Event{Kind: number(1), Slot: number(1), Gen: number(2), Peer: number(1)})
	}
	does := strconv.FormatInt(256+int64(number(1)), 2)
	for i := range e.Inputs {
		if does[8-i] == '1' {
			e.Inputs[i] = api.Input{X: int8(number(1)), Y: int8(number(1)), B: uint8(number(1))}
		}
	}
	if again, code := wantPut(e); code != 0 || !bytes.Equal(again, b) {
		return api.Entry{}, 2
	}
	return e, 0
}

// wantSame tells whether a and b are alike in all parts: a text has all of them.
func wantSame(a, b api.Entry) bool {
	a.Events, b.Events = append([]api.Event{}, a.Events...), append([]api.Event{}, b.Events...)
	return fmt.Sprintf("%#v", a) == fmt.Sprintf("%#v", b)
}

// holdsPut tells where May or Put of e isn't what is told of it, or where e was
// changed; and holds what was put against what is got of it.
func holdsPut(t *testing.T, e api.Entry) {
	t.Helper()
	room := append(slices.Clone(e.Events), make([]api.Event, 3)...) // nobody may write behind the list either
	e.Events = room[:len(e.Events)]
	before := slices.Clone(room)
	b, code := Put(e)
	want, ok := wantPut(e)
	if code != ok || !bytes.Equal(b, want) || May(e) != (ok == 0) {
		t.Fatalf("Put(%+v):\n%x, %d, not\n%x, %d", e, b, code, want, ok)
	}
	if !slices.Equal(room, before) {
		t.Fatalf("what was put is changed: %+v", e)
	}
	if code == 0 {
		holdsGet(t, b)
	}
}

// holdsGet tells where Get of b isn't what is told of it, or where b was changed,
// or what lies behind it was asked.
func holdsGet(t *testing.T, b []byte) {
	t.Helper()
	room := append(slices.Clone(b), 1, 0, 0, 0, 0, 0, 0, 0, 0)
	before := slices.Clone(room)
	got, code := Get(room[:len(b)])
	want, ok := wantGet(b)
	if code != ok || !wantSame(got, want) {
		t.Fatalf("Get(%x):\n%+v, %d, not\n%+v, %d", b, got, code, want, ok)
	}
	if code == 0 {
		if again, code := Put(got); code != 0 || !bytes.Equal(again, b) {
			t.Fatalf("%x comes back as %x, %d", b, again, code)
		}
	}
	if !bytes.Equal(room, before) {
		t.Fatalf("what was got is changed: %x", b)
	}
}

// some is an entry with some of all, in which hardly two numbers are alike.
func some() api.Entry {
	return api.Entry{
		Frame: 0x0a0b0c,
		Events: []api.Event{
			{Kind: 2, Slot: 3, Gen: 60000, Peer: 11},
			{Kind: 2, Slot: 7, Gen: 0x0102, Peer: 0},
			{Kind: 1, Slot: 5, Gen: 1, Peer: 9},
		},
		Inputs: [8]api.Input{1: {X: -127, Y: 127, B: 254}, 4: {X: 6}, 5: {Y: -5}, 7: {B: 128}},
	}
}

// someBytes are the bytes of some, written by hand from the chapter.
const someBytes = "0c0b0a00" + "03" + "0203" + "60ea" + "0b" + "0207" + "0201" + "00" + "0105" + "0100" + "09" +
	"b2" + "817ffe" + "060000" + "00fb00" + "000080"

// Promise 9.1: each number at its place, the least byte first.
func TestBytesByHand(t *testing.T) {
	want, err := hex.DecodeString(someBytes)
	if err != nil {
		t.Fatal(err)
	}
	if b, code := Put(some()); code != api.OK || !bytes.Equal(b, want) {
		t.Errorf("%x, %d, not\n%x", b, code, want)
	}
	if e, code := Get(want); code != api.OK || !wantSame(e, some()) {
		t.Errorf("%+v, %d", e, code)
	}
	if b, code := Put(api.Entry{Frame: 7}); code != api.OK || !bytes.Equal(b, []byte{7, 0, 0, 0, 0, 0}) {
		t.Errorf("nothing in frame 7: %x, %d", b, code)
	}
	holdsPut(t, some())
}

// Promise 9.1: an event has five bytes, an input three and its bit, the zero input
// none: whichever slots do something.
func TestLengths(t *testing.T) {
	for events := range 17 {
		for mask := range 256 {
			e := most()
			e.Events = e.Events[:events]
			for slot := range e.Inputs {
				if mask>>slot&1 == 0 {
					e.Inputs[slot] = api.Input{}
				}
			}
			b, code := Put(e)
			if want := 6 + 5*events + 3*bits.OnesCount(uint(mask)); code != api.OK || len(b) != want || int(b[5+5*events]) != mask {
				t.Fatalf("%d events, inputs %08b: %x, %d", events, mask, b, code)
			}
			holdsPut(t, e)
		}
	}
	holdsPut(t, api.Entry{})
	holdsPut(t, api.Entry{Events: []api.Event{}}) // is none
}

// Promise 9.1: an input counts as something, whichever part of it is not 0; where
// an axis is -128, it may not be.
func TestEachInput(t *testing.T) {
	for slot := range api.Slots {
		for v := range 256 {
			for _, in := range []api.Input{{X: int8(v)}, {Y: int8(v)}, {B: uint8(v)}, {X: int8(v), Y: int8(v), B: uint8(v)}} {
				e := api.Entry{Frame: v}
				e.Inputs[slot] = in
				holdsPut(t, e)
			}
		}
	}
}

// Promise 9.1: what is beyond its limits is not put, also where it is beyond the
// bytes that there are for it and would look as if it were within.
func TestNotPut(t *testing.T) {
	for name, set := range map[string]func(e *api.Entry, v int){
		"Frame": func(e *api.Entry, v int) { e.Frame = v },
		"Kind":  func(e *api.Entry, v int) { e.Events[1].Kind = v },
		"Slot":  func(e *api.Entry, v int) { e.Events[1].Slot = v },
		"Gen":   func(e *api.Entry, v int) { e.Events[1].Gen = v },
		"Peer":  func(e *api.Entry, v int) { e.Events[1].Peer = v },
	} {
		for _, bit := range []int{0, 8, 16, 32, strconv.IntSize - 1} {
			for near := -3; near < 13; near++ {
				e := some()
				wide := 1
				wide <<= bit // 0, where an int is that short
				set(&e, wide+near)
				if b, code := Put(e); !wantMay(e) && (code != api.ErrArg || b != nil) {
					t.Errorf("%s %d: %x, %d", name, wide+near, b, code)
				}
				holdsPut(t, e)
			}
		}
	}
	for _, wrong := range []api.Entry{
		{Frame: api.MaxFrame},
		{Events: make([]api.Event, 1)},
		{Events: make([]api.Event, 256)}, // their number's byte is 0
		{Events: slices.Repeat(some().Events[:1], 257)},
		{Inputs: [8]api.Input{3: {X: -128}}},
	} {
		if b, code := Put(wrong); code != api.ErrArg || b != nil {
			t.Errorf("%+v: %x, %d", wrong, b, code)
		}
	}
}

// Promise 9.1: bytes that end too soon, or go on, are nothing.
func TestCutAndMore(t *testing.T) {
	nothing := func(b []byte) {
		t.Helper()
		if got, code := Get(b); code != api.ErrBytes || !wantSame(got, api.Entry{}) {
			t.Errorf("%x: %+v, %d", b, got, code)
		}
		holdsGet(t, b)
	}
	for _, e := range []api.Entry{{}, some(), most()} {
		b, _ := Put(e)
		for n := range b {
			nothing(b[:n])
		}
		for _, more := range [][]byte{{0}, {1}, make([]byte, 3), make([]byte, 5), make([]byte, 5000), b} {
			nothing(slices.Concat(b, more))
		}
	}
	for _, b := range [][]byte{nil, {}, bytes.Repeat([]byte{1}, 6), bytes.Repeat([]byte{255}, 6), bytes.Repeat([]byte{255}, 100_000), make([]byte, 100_000)} {
		nothing(b)
	}
}

// Promise 9.1: each byte as each other one: either it is what another entry is put
// as, or it is nothing.
func TestTurnedBytes(t *testing.T) {
	taken, refused := 0, 0
	for _, e := range []api.Entry{{}, some(), most()} {
		b, _ := Put(e)
		for at := range b {
			was := b[at]
			for v := range 256 {
				b[at] = byte(v)
				holdsGet(t, b)
				if _, code := Get(b); code == api.OK {
					taken++
				} else {
					refused++
				}
			}
			b[at] = was
		}
	}
	if taken < 3000 || refused < 3000 {
		t.Errorf("%d are taken, %d are nothing", taken, refused)
	}
}

// Promise 9.1: an entry that may not be isn't got, however well its bytes lie; nor
// is one that Put would write otherwise.
func TestWrongWithin(t *testing.T) {
	for name, text := range map[string]string{
		"Frame at MaxFrame":     "00001000" + "00" + "00",
		"Frame like a negative": "ffffffff" + "00" + "00",
		"Kind 0":                "00000000" + "01" + "0000010000" + "00",
		"Kind 3":                "00000000" + "01" + "0300010000" + "00",
		"Slot 8":                "00000000" + "01" + "0108010000" + "00",
		"Gen 0":                 "00000000" + "01" + "0100000000" + "00",
		"Gen 60001":             "00000000" + "01" + "010061ea00" + "00",
		"Peer 12":               "00000000" + "01" + "010001000c" + "00",
		"Peer 255":              "00000000" + "01" + "01000100ff" + "00",
		"Join ahead of Leave":   "00000000" + "02" + "0100010000" + "0201010001" + "00",
		"Join twice":            "00000000" + "02" + "0100010000" + "0100010000" + "00",
		"Leave twice":           "00000000" + "02" + "0200010000" + "0200010000" + "00",
		"Slots falling":         "00000000" + "02" + "0203010000" + "0202010000" + "00",
		"an event less":         "00000000" + "00" + "0100010000" + "00",
		"an event more":         "00000000" + "02" + "0100010000" + "00",
		"X -128":                "00000000" + "00" + "01" + "800000",
		"Y -128":                "00000000" + "00" + "80" + "008000",
		"a bit for nothing":     "00000000" + "00" + "01" + "000000",
		"the other for nothing": "00000000" + "00" + "81" + "010000" + "000000",
		"an input less":         "00000000" + "00" + "03" + "010000",
		"an input more":         "00000000" + "00" + "01" + "010000" + "010000",
		"an input without bit":  "00000000" + "00" + "00" + "010000",
	} {
		b, err := hex.DecodeString(text)
		if err != nil {
			t.Fatal(err)
		}
		if got, code := Get(b); code != api.ErrBytes || !wantSame(got, api.Entry{}) {
			t.Errorf("%s: %+v, %d", name, got, code)
		}
		holdsGet(t, b)
	}
}

// Promise 9.1: no more events are got than there may be, though all their bytes
// are there.
func TestManyEvents(t *testing.T) {
	for count := range 256 {
		b := []byte{0, 0, 0, 0, byte(count)}
		for i := range count {
			b = append(b, byte(2-i/8%2), byte(i%8), 1, 0, 3)
		}
		b = append(b, 0)
		if _, code := Get(b); (code == api.OK) != (count <= 16) {
			t.Errorf("%d events: %d", count, code)
		}
		holdsGet(t, b)
	}
}

// Promise 9.1: all bytes up to nine of which each is one of three.
func TestAllShortBytes(t *testing.T) {
	some := []byte{0, 1, 0x80}
	for size := range 10 {
		count := int(math.Pow(3, float64(size)))
		for n := range count {
			b := make([]byte, size)
			for i := range b {
				b[i] = some[n%3]
				n /= 3
			}
			holdsGet(t, b)
		}
	}
}

// anyEntry is an entry that may be, by chance.
func anyEntry(r chance) api.Entry {
	e := api.Entry{Frame: r.IntN(1 << 20)}
	for i := range 16 {
		if r.IntN(3) == 0 {
			e.Events = append(e.Events, api.Event{Kind: 2 - i/8, Slot: i % 8, Gen: 1 + r.IntN(60000), Peer: r.IntN(12)})
		}
	}
	for i := range e.Inputs {
		if r.IntN(2) == 0 {
			e.Inputs[i] = api.Input{X: int8(r.IntN(255) - 127), Y: int8(r.IntN(3) - 1), B: uint8(r.IntN(256))}
		}
	}
	return e
}

// Promises 9.1 to 9.3: any entry goes through the wire and comes back; with a byte
// turned, or lost, or doubled, it is another entry's bytes or none.
func TestThereAndBack(t *testing.T) {
	r := rand.New(rand.NewPCG(9, 1))
	for range 20_000 {
		e := anyEntry(r)
		b, code := Put(e)
		back, got := Get(b)
		if code != api.OK || got != api.OK || !Same(back, e) || !wantSame(back, e) {
			t.Fatalf("%+v comes back as %+v: %d, %d", e, back, code, got)
		}
		holdsPut(t, e)
		at := r.IntN(len(b))
		turned := slices.Clone(b)
		turned[at] ^= byte(1 + r.IntN(255))
		holdsGet(t, turned)
		holdsGet(t, slices.Delete(slices.Clone(b), at, at+1))
		holdsGet(t, slices.Insert(slices.Clone(b), at, b[at]))
		if other, code := Get(turned); code == api.OK && Same(other, e) {
			t.Fatalf("two ways to write %+v", e)
		}
	}
}

// Promise 9.3: what is answered is the caller's own: it doesn't change with what it
// was made of, or with another answer.
func TestOwn(t *testing.T) {
	e := some()
	b, _ := Put(e)
	c, _ := Put(e)
	first, _ := Get(b)
	second, _ := Get(b)
	for i := range e.Events {
		e.Events[i].Gen, first.Events[i].Gen = 3, 2
	}
	clear(b)
	want, _ := wantPut(some())
	if !bytes.Equal(c, want) || !wantSame(second, some()) {
		t.Errorf("%x, %+v", c, second)
	}
}

// Promise 9.3, T1: peers that put, get and ask the same at the same time are
// answered the same.
func TestManyPeers(t *testing.T) {
	entries := []api.Entry{{}, some(), most(), {Frame: -1}}
	var peers sync.WaitGroup
	for i := range 8 {
		peers.Go(func() {
			for n := range 500 {
				e := entries[(i+n)%4]
				want, ok := wantPut(e)
				if b, code := Put(e); code != ok || !bytes.Equal(b, want) {
					t.Errorf("peer %d: %x, %d", i, b, code)
				}
				if got, code := Get(want); ok == 0 && (code != api.OK || !Same(got, e)) {
					t.Errorf("peer %d: %+v, %d", i, got, code)
				}
				if !Front(entries[:i%5], entries) {
					t.Errorf("peer %d: no beginning", i)
				}
			}
		})
	}
	peers.Wait()
}

// Promises 9.1 to 9.3: whatever bytes there are; any entry; and its bytes, of which
// one is anything.
func FuzzAll(f *testing.F) {
	for _, e := range []api.Entry{{}, some(), most()} {
		b, _ := wantPut(e)
		f.Add(b, uint64(len(b)), uint8(7))
	}
	f.Add([]byte(nil), uint64(0), uint8(255))
	f.Fuzz(func(t *testing.T, b []byte, seed uint64, v uint8) {
		holdsGet(t, b)
		r := rand.New(rand.NewPCG(seed, 9))
		e := anyEntry(r)
		holdsPut(t, e)
		c, _ := Put(e)
		c[r.IntN(len(c))] = v
		holdsGet(t, c)
	})
}
