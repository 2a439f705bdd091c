package wire

import (
	"bytes"
	"encoding/binary"
	"math/rand/v2"
	"slices"
	"testing"

	"ceilidh/api"
)

// Promise 12.1: as another program reckoned it from the chapter.
func TestCheckByHand(t *testing.T) {
	all := make([]byte, 256)
	for i := range all {
		all[i] = byte(i)
	}
	long := make([]byte, 100_000)
	for i := range long {
		long[i] = byte(i*i*7 + i/3)
	}
	for _, x := range []struct {
		b    []byte
		want uint32
	}{
		{nil, 0xffffffff},
		{[]byte{}, 0xffffffff},
		{[]byte{0}, 0xb1cbb503},
		{[]byte{255}, 0xffffff00},
		{[]byte{128}, 0xe2e81c6a},
		{[]byte{1}, 0xc5d039d4},
		{[]byte("ceilidh"), 0x670b4e78},
		{[]byte("123456789"), 0x2eb14879},
		{make([]byte, 4), 0xdc4cc210},
		{bytes.Repeat([]byte{255}, 4), 0},
		{make([]byte, 1200), 0xf1dc2433},
		{bytes.Repeat([]byte{255}, 1200), 0x11efe365},
		{all, 0xe7b270a1},
		{long, 0x1c9e34bf},
	} {
		if got := Check(x.b); got != x.want {
			t.Errorf("%d bytes: %08x, not %08x", len(x.b), got, x.want)
		}
	}
}

// Promise 12.1: of each byte, of any two, and of bytes by chance, of every length up
// to a datagram's; what lies behind them is not asked, and nothing is changed.
func TestCheck(t *testing.T) {
	holds := func(b []byte) {
		t.Helper()
		room := append(slices.Clone(b), 1, 2, 3)
		if got, want := Check(room[:len(b)]), wantCheck(b); got != want {
			t.Fatalf("%x: %08x, not %08x", b, got, want)
		}
		if !bytes.Equal(room[:len(b)], b) || !bytes.Equal(room[len(b):], []byte{1, 2, 3}) {
			t.Fatalf("%x is changed", b)
		}
	}
	for v := range 1 << 16 {
		holds([]byte{byte(v)})
		holds([]byte{byte(v), byte(v >> 8)})
	}
	r := rand.New(rand.NewPCG(12, 1))
	for size := range 1300 {
		b := make([]byte, size)
		for i := range b {
			b[i] = byte(r.Uint32())
		}
		holds(b)
	}
}

// spoilt tells where something is got of what is spoilt, or it isn't told.
func spoilt(t *testing.T, b []byte) {
	t.Helper()
	if got, code := Get(b); code != api.ErrSum || !wantSame(got, api.Msg{}) {
		t.Fatalf("%x: %+v, %d", b, got, code)
	}
}

// Promise 12.4, T4: in a datagram of each kind, whichever byte is turned, by
// whatever there is; and in the longest ones, by a bit, or by all.
func TestSpoiltByte(t *testing.T) {
	for _, m := range slices.Concat(some(), most()) {
		b, _ := Put(m)
		for at := range b {
			for by := 1; by < 256; by++ {
				if len(b) > 100 && by&(by-1) != 0 && by != 255 {
					continue
				}
				b[at] ^= byte(by)
				spoilt(t, b)
				b[at] ^= byte(by)
			}
		}
		if got, code := Get(b); code != api.OK || !Same(got, m) {
			t.Fatalf("kind %d: %d", m.Kind, code)
		}
	}
}

// Promise 12.4: any two, and any three bits that are turned.
func TestSpoiltBits(t *testing.T) {
	b, _ := Put(some()[10])
	turn := func(bit int) { b[bit/8] ^= 1 << (bit % 8) }
	size := 8 * len(b)
	for i := range size {
		turn(i)
		for j := i + 1; j < size; j++ {
			turn(j)
			spoilt(t, b)
			for k := j + 1; k < size; k++ {
				turn(k)
				if _, code := Get(b); code != api.ErrSum {
					t.Fatalf("bits %d, %d, %d: %d", i, j, k, code)
				}
				turn(k)
			}
			turn(j)
		}
		turn(i)
	}
}

// Promise 12.4: whatever is turned within four bytes that lie together, in the
// longest datagram, by chance.
func TestSpoiltTogether(t *testing.T) {
	r := rand.New(rand.NewPCG(12, 4))
	long, code := Put(longLog(180, 51))
	if code != api.OK || len(long) != api.MaxGram {
		t.Fatal(len(long), code)
	}
	for range 10_000 {
		b := slices.Clone(long)
		at := r.IntN(len(b) - 3)
		by := 1 + r.Uint32N(1<<32-1)
		binary.LittleEndian.PutUint32(b[at:], binary.LittleEndian.Uint32(b[at:])^by)
		spoilt(t, b)
	}
}

// Promise 12.4: bytes that are lost, doubled, swapped or added anywhere.
func TestSpoiltOrder(t *testing.T) {
	for _, m := range some() {
		b, _ := Put(m)
		for at := range b {
			spoilt(t, b[:at])
			spoilt(t, b[at+1:])
			spoilt(t, slices.Delete(slices.Clone(b), at, at+1))
			if at > 0 && b[at] != b[at-1] {
				c := slices.Clone(b)
				c[at], c[at-1] = c[at-1], c[at]
				spoilt(t, c)
			}
			for _, more := range []byte{0, 1, b[at], 255} {
				if c := slices.Insert(slices.Clone(b), at, more); !bytes.Equal(c[:len(b)], b) {
					spoilt(t, c)
				}
			}
		}
		spoilt(t, slices.Concat(b, b))
		for _, more := range [][]byte{{0}, {1}, {255}, make([]byte, 4), make([]byte, 1200)} {
			spoilt(t, slices.Concat(b, more))
			spoilt(t, slices.Concat(more, b))
		}
	}
}

// Promise 12.3: what is spoilt is told as that, whatever else is wrong with it: too
// long, of no kind, or nothing at all.
func TestSpoiltFirst(t *testing.T) {
	for _, rest := range [][]byte{{}, {0}, {15}, make([]byte, 10), wantRest(longLog(256, 128)), make([]byte, 100_000)} {
		b := sealed(rest)
		if got, code := Get(b); code != api.ErrBytes || !wantSame(got, api.Msg{}) {
			t.Errorf("%d bytes: %+v, %d", len(b), got, code)
		}
		b[len(b)-1] ^= 1
		spoilt(t, b)
		b[len(b)-1] ^= 1
		b[0] ^= 128
		spoilt(t, b)
	}
}
