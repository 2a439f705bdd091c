package wire

import (
	"bytes"
	"encoding/hex"
	"math/rand/v2"
	"slices"
	"sync"
	"testing"

	"ceilidh/api"
	"ceilidh/entry"
)

// head is what all of some have behind their check, kind and peer, by hand: Serial,
// Ack, Seen.
const head = "0102" + "fdfe" + "10111213"

// someBytes are the datagrams of some, written by hand from the chapter; another
// program reckoned their checks.
func someBytes() []string {
	return []string{
		"f736462f" + "0103" + head,
		"95895d2d" + "0206" + head + "07" + "60ea" + "0c0b0a00",
		"3790ee0e" + "0309" + head + "09",
		"20ae4531" + "0400" + head + "03" + "3412" + "00001000" + "03" + "817fff" + "000000" + "01ff80",
		"08e68354" + "0503" + head + "70110100" + "02" +
			"1600" + "70110100" + "02" + "020360ea0b" + "0105020104" + "82" + "817f05" + "000600" +
			"0600" + "71110100" + "00" + "00",
		"df10d877" + "0606" + head + "2d1e0f00",
		"a191e717" + "0709" + head + "71110100" + "1514" + "1716" + "8897a6b5c4d3e2f1" + "05" + "7069656365",
		"6869aa7f" + "0800" + head + "ffff" + "03020180",
		"9e60e461" + "0903" + head,
		"371fa562" + "0a06" + head + "04",
		"e01428f4" + "0b09" + head + "1918",
		"a02dda7a" + "0c00" + head + "ffff",
		"da572643" + "0d03" + head + "63000000" + "0807060504030201",
		"5622c9b6" + "0e06" + head,
	}
}

// ofHex is the bytes that a text tells.
func ofHex(t *testing.T, text string) []byte {
	t.Helper()
	b, err := hex.DecodeString(text)
	if err != nil {
		t.Fatal(err)
	}
	return b
}

// Promise 12.3: each number at its place, the least byte first, and just those that
// the kind has.
func TestBytesByHand(t *testing.T) {
	for i, m := range some() {
		want := ofHex(t, someBytes()[i])
		if b, code := Put(m); code != api.OK || !bytes.Equal(b, want) {
			t.Errorf("kind %d: %x, %d, not\n%x", m.Kind, b, code, want)
		}
		if got, code := Get(want); code != api.OK || !wantSame(got, m) || !Same(got, m) {
			t.Errorf("kind %d: %+v, %d, not\n%+v", m.Kind, got, code, m)
		}
	}
}

// Promise 12.3: how long the datagrams are, at the least and at the most.
func TestLengths(t *testing.T) {
	least := map[int]int{1: 14, 2: 21, 3: 15, 4: 14 + 8 + 3, 5: 14 + 5 + 8, 6: 18, 7: 14 + 17 + 1, 8: 20, 9: 14, 10: 15, 11: 16, 12: 16, 13: 26, 14: 14}
	longest := map[int]int{4: 14 + 8 + 48, 5: 14 + 5 + 16*(2+6+35+24), 7: 14 + 17 + 64}
	for i, m := range most() {
		b, code := Put(m)
		want := least[m.Kind]
		if long, ok := longest[m.Kind]; ok {
			want = long
		}
		if code != api.OK || len(b) != want {
			t.Errorf("kind %d: %d bytes, %d, not %d", m.Kind, len(b), code, want)
		}
		holdsPut(t, m)
		m = some()[i]
		m.Inputs, m.Log, m.Data = m.Inputs[:min(1, len(m.Inputs))], nil, m.Data[:min(1, len(m.Data))]
		if m.Kind == api.MLog {
			m.Log = []api.Entry{{Frame: m.Frame}}
		}
		if b, code := Put(m); code != api.OK || len(b) != least[m.Kind] {
			t.Errorf("kind %d: %d bytes, %d, not %d", m.Kind, len(b), code, least[m.Kind])
		}
		holdsPut(t, m)
	}
}

// Promise 12.3: lists of every length, and logs of every size.
func TestLists(t *testing.T) {
	for size := 1; size <= 16; size++ {
		m := api.Msg{Kind: api.MInputs, Slot: size % 8, Gen: size}
		log := api.Msg{Kind: api.MLog, Frame: 255}
		for i := range size {
			m.Inputs = append(m.Inputs, api.Input{X: int8(i), Y: int8(-i), B: uint8(16 * i)})
			log.Log = append(log.Log, entryOf(255+i, size-1-i, i%9))
		}
		if holdsPut(t, m) != api.OK || holdsPut(t, log) != api.OK {
			t.Errorf("%d are not put", size)
		}
	}
	for size := 1; size <= 64; size++ {
		m := api.Msg{Kind: api.MChunk, N: size, Of: 256 * size, Frame: 1 << (size % 21), Sum: 1 << (size - 1)}
		for i := range size {
			m.Data = append(m.Data, byte(3*i))
		}
		if holdsPut(t, m) != api.OK {
			t.Errorf("%d bytes are not put", size)
		}
	}
}

// longLog is a log's message of sixteen entries with so many events, and so many
// who do something, in all.
func longLog(events, does int) api.Msg {
	m := api.Msg{Kind: api.MLog}
	for i := range 16 {
		e := entryOf(i, min(events, 16), min(does, 8))
		events, does = events-len(e.Events), max(does-8, 0)
		m.Log = append(m.Log, e)
	}
	return m
}

// Promise 12.3: a datagram has at most 1200 bytes: what would have more may be, and
// is not put; nor is anything got of so many, however well they lie.
func TestTooLong(t *testing.T) {
	for _, x := range []struct{ events, does, size int }{
		{0, 0, 147}, {180, 50, 1197}, {180, 51, 1200}, {182, 48, 1201}, {183, 47, 1203}, {181, 50, 1202}, {183, 46, 1200}, {256, 128, 1811},
	} {
		m := longLog(x.events, x.does)
		rest := wantRest(m)
		if len(rest)+4 != x.size || !May(m) {
			t.Fatalf("%+v: %d bytes, %t", x, len(rest)+4, May(m))
		}
		put, got := api.OK, api.OK
		if x.size > 1200 {
			put, got = api.ErrFull, api.ErrBytes
		}
		if b, code := Put(m); code != put || (b == nil) != (put != api.OK) {
			t.Errorf("%d bytes are put: %x, %d", x.size, b, code)
		}
		if back, code := Get(sealed(rest)); code != got || wantSame(back, m) != (got == api.OK) {
			t.Errorf("%d bytes are got: %+v, %d", x.size, back, code)
		}
		holdsPut(t, m)
		holdsGet(t, sealed(rest))
		m.From = 12
		if b, code := Put(m); code != api.ErrArg || b != nil {
			t.Errorf("%d bytes of what may not be: %x, %d", x.size, b, code)
		}
	}
}

// Promise 12.3: bytes that are no datagram, and have a check as others have.
func TestNothing(t *testing.T) {
	for _, b := range [][]byte{nil, {}, {0}, {255, 255, 255}, {255, 255, 255, 255}, {255, 255, 255, 254}, make([]byte, 4), make([]byte, 14), make([]byte, 1200), bytes.Repeat([]byte{255}, 8), bytes.Repeat([]byte{255}, 1200), make([]byte, 100_000)} {
		want := api.ErrSum
		if string(b) == "\xff\xff\xff\xff" { // the check of nothing
			want = api.ErrBytes
		}
		if got, code := Get(b); code != want || !wantSame(got, api.Msg{}) {
			t.Errorf("%d bytes: %+v, %d", len(b), got, code)
		}
		holdsGet(t, b)
		if got, code := Get(sealed(b)); code != api.ErrBytes || !wantSame(got, api.Msg{}) {
			t.Errorf("%d bytes and their check: %+v, %d", len(b), got, code)
		}
		holdsGet(t, sealed(b))
	}
}

// Promise 12.3: bytes that end too soon, or go on, are nothing, though their check
// is right.
func TestCutAndMore(t *testing.T) {
	nothing := func(rest []byte) {
		t.Helper()
		if got, code := Get(sealed(rest)); code != api.ErrBytes || !wantSame(got, api.Msg{}) {
			t.Errorf("%x: %+v, %d", rest, got, code)
		}
		holdsGet(t, sealed(rest))
	}
	for _, m := range slices.Concat(some(), most()) {
		rest := wantRest(m)
		for n := range rest {
			nothing(rest[:n])
		}
		for _, more := range [][]byte{{0}, {1}, make([]byte, 3), make([]byte, 6), rest, make([]byte, 1200), make([]byte, 70_000)} {
			nothing(slices.Concat(rest, more))
		}
	}
}

// Promise 12.3: each byte as each other one, with the check that is right then:
// either it is what another message is put as, or it is nothing.
func TestTurnedBytes(t *testing.T) {
	taken, refused := 0, 0
	for _, m := range some() {
		rest := wantRest(m)
		for at := range rest {
			was := rest[at]
			for v := range 256 {
				rest[at] = byte(v)
				if holdsGet(t, sealed(rest)) == api.OK {
					taken++
				} else {
					refused++
				}
			}
			rest[at] = was
		}
	}
	if taken < 20_000 || refused < 10_000 {
		t.Errorf("%d are taken, %d are nothing", taken, refused)
	}
}

// Promise 12.3: a message that may not be isn't got, however well its bytes lie;
// nor is one that Put would write otherwise.
func TestWrongWithin(t *testing.T) {
	for name, text := range map[string]string{
		"Kind 0":                  "0000" + head,
		"Kind 15":                 "0f00" + head,
		"Kind 255":                "ff00" + head,
		"From 12":                 "010c" + head,
		"From 255":                "01ff" + head,
		"a part too many":         "0100" + head + "00",
		"Slot 8":                  "0200" + head + "08" + "0100" + "00000000",
		"Gen 0":                   "0200" + head + "00" + "0000" + "00000000",
		"Gen 60001":               "0200" + head + "00" + "61ea" + "00000000",
		"Frame above MaxFrame":    "0200" + head + "00" + "0100" + "01001000",
		"Frame like a negative":   "0600" + head + "ffffffff",
		"Code 10":                 "0300" + head + "0a",
		"Code 10 of MEvict":       "0a00" + head + "0a",
		"no inputs":               "0400" + head + "00" + "0100" + "00000000" + "00",
		"an input less":           "0400" + head + "00" + "0100" + "00000000" + "02" + "000000",
		"an input more":           "0400" + head + "00" + "0100" + "00000000" + "01" + "000000" + "000000",
		"17 inputs":               "0400" + head + "00" + "0100" + "00000000" + "11" + zeros(17*3),
		"X -128":                  "0400" + head + "00" + "0100" + "00000000" + "01" + "800000",
		"Y -128":                  "0400" + head + "00" + "0100" + "00000000" + "01" + "008000",
		"no log":                  "0500" + head + "00000000" + "00",
		"an entry less":           "0500" + head + "00000000" + "02" + "0600" + zeros(6),
		"an entry more":           "0500" + head + "00000000" + "01" + "0600" + zeros(6) + "0600" + "01000000" + "0000",
		"an entry's frame":        "0500" + head + "00000000" + "01" + "0600" + "01000000" + "0000",
		"the same frame twice":    "0500" + head + "00000000" + "02" + "0600" + zeros(6) + "0600" + zeros(6),
		"a frame left out":        "0500" + head + "00000000" + "02" + "0600" + zeros(6) + "0600" + "02000000" + "0000",
		"frames falling":          "0500" + head + "01000000" + "02" + "0600" + "01000000" + "0000" + "0600" + zeros(6),
		"an entry's length 0":     "0500" + head + "00000000" + "01" + "0000",
		"an entry's length 5":     "0500" + head + "00000000" + "01" + "0500" + zeros(5),
		"an entry's length 7":     "0500" + head + "00000000" + "01" + "0700" + zeros(7),
		"an entry with no more":   "0500" + head + "00000000" + "01" + "0700" + zeros(6),
		"a length beyond all":     "0500" + head + "00000000" + "01" + "ffff" + zeros(6),
		"an entry that is none":   "0500" + head + "00000000" + "01" + "0900" + "00000000" + "00" + "01" + "000000",
		"the frame MaxFrame":      "0500" + head + "00001000" + "01" + "0600" + "00001000" + "0000",
		"N of as many":            "0700" + head + "00000000" + "0100" + "0100" + zeros(8) + "01" + "00",
		"N beyond":                "0700" + head + "00000000" + "0200" + "0100" + zeros(8) + "01" + "00",
		"Of 0":                    "0700" + head + "00000000" + "0000" + "0000" + zeros(8) + "01" + "00",
		"N and Of 65535":          "0700" + head + "00000000" + "ffff" + "ffff" + zeros(8) + "01" + "00",
		"no data":                 "0700" + head + "00000000" + "0000" + "0100" + zeros(8) + "00",
		"a byte less":             "0700" + head + "00000000" + "0000" + "0100" + zeros(8) + "02" + "00",
		"a byte more":             "0700" + head + "00000000" + "0000" + "0100" + zeros(8) + "01" + "0000",
		"65 bytes":                "0700" + head + "00000000" + "0000" + "0100" + zeros(8) + "41" + zeros(65),
		"Frame of a chunk":        "0700" + head + "01001000" + "0000" + "0100" + zeros(8) + "01" + "00",
		"Frame of a check":        "0d00" + head + "01001000" + zeros(8),
		"a Bit too few":           "0800" + head + "0000" + zeros(3),
		"a Sum for what has none": "0600" + head + "00000000" + zeros(8),
	} {
		b := sealed(ofHex(t, text))
		if got, code := Get(b); code != api.ErrBytes || !wantSame(got, api.Msg{}) {
			t.Errorf("%s: %+v, %d", name, got, code)
		}
		holdsGet(t, b)
	}
}

// zeros is a text of so many bytes that are 0.
func zeros(size int) string {
	return hex.EncodeToString(make([]byte, size))
}

// Promise 12.3: no more parts are got than there may be, though all their bytes are
// there.
func TestManyParts(t *testing.T) {
	for count := range 256 {
		inputs := append(ofHex(t, "0400"+head+"00"+"0100"+"00000000"), byte(count))
		inputs = append(inputs, make([]byte, 3*count)...)
		log := append(ofHex(t, "0500"+head+"00000000"), byte(count))
		for i := range count {
			one, _ := entry.Put(api.Entry{Frame: i})
			log = append(append(log, 6, 0), one...)
		}
		data := append(ofHex(t, "0700"+head+"00000000"+"0000"+"0100"+zeros(8)), byte(count))
		data = append(data, make([]byte, count)...)
		for most, rest := range map[int][]byte{16: inputs, -16: log, 64: data} {
			most = max(most, -most)
			if code := holdsGet(t, sealed(rest)); (code == api.OK) != (1 <= count && count <= most) {
				t.Errorf("kind %d, %d parts: %d", rest[0], count, code)
			}
		}
	}
}

// Promises 12.2, 12.3: any message goes through the wire and comes back; with a
// byte turned, or lost, or doubled, and a check that fits, it is another one or none.
func TestThereAndBack(t *testing.T) {
	r := rand.New(rand.NewPCG(12, 3))
	for range 4_000 {
		m := anyMsg(r)
		b, code := Put(m)
		back, got := Get(b)
		if code != api.OK || got != api.OK || !Same(back, m) || !wantSame(back, m) {
			t.Fatalf("%+v comes back as %+v: %d, %d", m, back, code, got)
		}
		holdsPut(t, m)
		rest := b[4:]
		at := r.IntN(len(rest))
		turned := slices.Clone(rest)
		turned[at] ^= byte(1 + r.IntN(255))
		holdsGet(t, sealed(turned))
		holdsGet(t, sealed(slices.Delete(slices.Clone(rest), at, at+1)))
		holdsGet(t, sealed(slices.Insert(slices.Clone(rest), at, rest[at])))
		if other, code := Get(sealed(turned)); code == api.OK && Same(other, m) {
			t.Fatalf("two ways to write %+v", m)
		}
	}
}

// What is answered is the caller's own: it doesn't change with what it was made of,
// or with another answer.
func TestOwn(t *testing.T) {
	for i, m := range some() {
		want := plain(m)
		m = plain(m)
		b, _ := Put(m)
		c, _ := Put(m)
		first, _ := Get(b)
		second, _ := Get(b)
		for _, x := range []api.Msg{m, first} {
			clear(x.Inputs)
			clear(x.Data)
			for _, e := range x.Log {
				clear(e.Events)
			}
			clear(x.Log)
		}
		clear(b)
		if !bytes.Equal(c, ofHex(t, someBytes()[i])) || !wantSame(second, want) {
			t.Errorf("%x, %+v", c, second)
		}
	}
}

// Peers that put and get the same at the same time are answered the same.
func TestManyPeers(t *testing.T) {
	msgs := append(some(), api.Msg{}, longLog(256, 128))
	var peers sync.WaitGroup
	for i := range 8 {
		peers.Go(func() {
			for n := range 300 {
				m := msgs[(i+n)%len(msgs)]
				want, ok := wantPut(m)
				if b, code := Put(m); code != ok || !bytes.Equal(b, want) || May(m) != (ok != 1) {
					t.Errorf("peer %d: %x, %d", i, b, code)
				}
				if got, code := Get(want); ok == 0 && (code != api.OK || !Same(got, m)) {
					t.Errorf("peer %d: %+v, %d", i, got, code)
				}
			}
		})
	}
	peers.Wait()
}

// Promises 12.1 to 12.4: whatever bytes there are, with their check and without; any
// message; and its bytes, of which one is anything, with their check and without.
func FuzzAll(f *testing.F) {
	for _, m := range slices.Concat(some(), most()) {
		b, _ := wantPut(m)
		f.Add(b[4:], uint64(len(b)), uint8(m.Kind))
		f.Add(b, uint64(m.Kind), uint8(255))
	}
	f.Add([]byte(nil), uint64(0), uint8(0))
	f.Fuzz(func(t *testing.T, b []byte, seed uint64, v uint8) {
		if Check(b) != wantCheck(b) {
			t.Fatalf("Check(%x): %x, not %x", b, Check(b), wantCheck(b))
		}
		holdsGet(t, b)
		holdsGet(t, sealed(b))
		r := rand.New(rand.NewPCG(seed, 12))
		m := anyMsg(r)
		holdsPut(t, m)
		c, _ := wantPut(m)
		at := r.IntN(len(c))
		same := c[at] == v
		c[at] = v
		if code := holdsGet(t, c); !same && code != api.ErrSum {
			t.Fatalf("%+v, byte %d as %d: %d", m, at, v, code)
		}
		holdsGet(t, sealed(c[4:]))
	})
}
