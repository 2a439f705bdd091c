package lay

import (
	"bytes"
	"math"
	"testing"
)

// numbers are parts of all kinds that there are.
type numbers struct {
	small  int8
	plain  int
	place  int32
	button uint8
	whole  uint64
}

// layNumbers takes all of n by, each with the bytes that it has.
func layNumbers(by Pass, n *numbers) {
	Part(by, 1, &n.small)
	Part(by, 2, &n.plain)
	Part(by, 4, &n.place)
	Part(by, 1, &n.button)
	Part(by, 8, &n.whole)
}

// The same layout writes and reads, the least byte first; signs come back where
// a part is as narrow as its bytes.
func TestThereAndBack(t *testing.T) {
	for want, n := range map[string]numbers{
		"\x00\x00\x00\x00\x00\x00\x00\x00\x00\x00\x00\x00\x00\x00\x00\x00": {},
		"\xff\x02\x01\xfe\xff\xff\xff\xfd\x08\x07\x06\x05\x04\x03\x02\x01": {-1, 0x0102, -2, 0xfd, 0x0102030405060708},
		"\x80\xff\xff\x00\x00\x00\x80\xff\xff\xff\xff\xff\xff\xff\xff\xff": {math.MinInt8, 0xffff, math.MinInt32, 255, math.MaxUint64},
		"\x7f\x00\x80\xff\xff\xff\x7f\x80\x00\x00\x00\x00\x00\x00\x00\x80": {math.MaxInt8, 0x8000, math.MaxInt32, 128, 1 << 63},
	} {
		b := []byte("ahead")
		was := n
		layNumbers(Writer(&b), &n)
		if string(b) != "ahead"+want || n != was {
			t.Errorf("%+v: %x", n, b)
		}
		back := numbers{9, 9, 9, 9, 9}
		b = append(b, "behind"...)[5:]
		layNumbers(Reader(&b), &back)
		if back != n || string(b) != "behind" {
			t.Errorf("%+v comes back as %+v; %q is left", n, back, b)
		}
	}
}

// A writer writes the bytes that are told, however great the number is.
func TestWriterKeepsToItsBytes(t *testing.T) {
	var b []byte
	plain := 0x01020304
	Part(Writer(&b), 2, &plain)
	if !bytes.Equal(b, []byte{4, 3}) {
		t.Errorf("%x", b)
	}
}

// thrown is what do throws.
func thrown(do func()) (why any) {
	defer func() { why = recover() }()
	do()
	return nil
}

// Bytes that end too soon are told, and stay where they are; what lies in memory
// behind them is not asked.
func TestTooFewBytes(t *testing.T) {
	room := []byte{1, 2, 3, 4}
	for have := range 4 {
		b, v := room[:have], 7
		by := Reader(&b)
		if why := thrown(func() { Part(by, 4, &v) }); why != "too few bytes" || v != 7 || len(b) != have {
			t.Errorf("%d bytes: %v, %d, %x", have, why, v, b)
		}
	}
}

// Need throws what it is told, where it is not so.
func TestNeed(t *testing.T) {
	if why := thrown(func() { Need(true, "why") }); why != nil {
		t.Errorf("%v", why)
	}
	if why := thrown(func() { Need(false, "why") }); why != "why" {
		t.Errorf("%v", why)
	}
}
