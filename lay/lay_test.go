package lay

import (
	"bytes"
	"math"
	"slices"
	"testing"
)

// numbers are parts of all kinds that there are.
type numbers struct {
	small  int8
	plain  int
	place  int32
	button uint8
	whole  uint64
	number uint16
	bits   uint32
}

// layNumbers takes all of n by, each with the bytes that it has.
func layNumbers(by Pass, n *numbers) {
	Part(by, 1, &n.small)
	Part(by, 2, &n.plain)
	Part(by, 4, &n.place)
	Part(by, 1, &n.button)
	Part(by, 8, &n.whole)
	Part(by, 2, &n.number)
	Part(by, 4, &n.bits)
}

// The same layout writes and reads, the least byte first; signs come back where
// a part is as narrow as its bytes.
func TestThereAndBack(t *testing.T) {
	for want, n := range map[string]numbers{
		"\x00\x00\x00\x00\x00\x00\x00\x00\x00\x00\x00\x00\x00\x00\x00\x00" + "\x00\x00\x00\x00\x00\x00": {},
		"\xff\x02\x01\xfe\xff\xff\xff\xfd\x08\x07\x06\x05\x04\x03\x02\x01" + "\x0a\x09\x0e\x0d\x0c\x0b": {-1, 0x0102, -2, 0xfd, 0x0102030405060708, 0x090a, 0x0b0c0d0e},
		"\x80\xff\xff\x00\x00\x00\x80\xff\xff\xff\xff\xff\xff\xff\xff\xff" + "\xff\xff\xff\xff\xff\xff": {math.MinInt8, 0xffff, math.MinInt32, 255, math.MaxUint64, math.MaxUint16, math.MaxUint32},
		"\x7f\x00\x80\xff\xff\xff\x7f\x80\x00\x00\x00\x00\x00\x00\x00\x80" + "\x00\x80\x00\x00\x00\x80": {math.MaxInt8, 0x8000, math.MaxInt32, 128, 1 << 63, 1 << 15, 1 << 31},
	} {
		b := []byte("ahead")
		was := n
		layNumbers(Writer(&b), &n)
		if string(b) != "ahead"+want || n != was {
			t.Errorf("%+v: %x", n, b)
		}
		back := numbers{9, 9, 9, 9, 9, 9, 9}
		b = append(b, "behind"...)[5:]
		layNumbers(Reader(&b), &back)
		if back != n || string(b) != "behind" {
			t.Errorf("%+v comes back as %+v; %q is left", n, back, b)
		}
	}
}

// A writer writes the bytes that are told, however great the number is.
func TestWriterKeepsToItsBytes(t *testing.T) {
	var b []byte
	plain := 0x01020304
	Part(Writer(&b), 2, &plain)
	if !bytes.Equal(b, []byte{4, 3}) {
		t.Errorf("%x", b)
	}
}

// layPair takes two numbers by, the first of one byte and the second of two.
func layPair(by Pass, pair *[2]int) {
	Part(by, 1, &pair[0])
	Part(by, 2, &pair[1])
}

// A list has how many there are ahead of them, and comes back whatever the reader
// had; the ones that were handed in are only read.
func TestList(t *testing.T) {
	for want, list := range map[string][][2]int{
		"\x00\x00":                              nil,
		"\x01\x00" + "\x07\x09\x08":             {{7, 0x0809}},
		"\x02\x00" + "\x01\x00\x00\x02\xff\xff": {{1, 0}, {2, 0xffff}},
	} {
		b := []byte("ahead")
		put := slices.Clone(list)
		List(Writer(&b), 2, &put, layPair)
		if string(b) != "ahead"+want || !slices.Equal(put, list) {
			t.Errorf("%v: %x, %v", list, b, put)
		}
		for _, had := range [][][2]int{nil, {{3, 4}}, {{3, 4}, {5, 6}, {7, 8}}} {
			got, was := had, slices.Clone(had)
			from := append(b, "behind"...)[5:]
			List(Reader(&from), 2, &got, layPair)
			if !slices.Equal(got, list) || string(from) != "behind" || !slices.Equal(had, was) {
				t.Errorf("%v comes back as %v; %q is left", list, got, from)
			}
		}
	}
}

// What whoever takes the parts by makes of them is not written into the list that
// was handed in.
func TestListIsOwn(t *testing.T) {
	list := []int{1, 2, 3}
	was := list
	var b []byte
	List(Writer(&b), 1, &list, func(by Pass, part *int) { Part(by, 1, part); *part = 9 })
	if !bytes.Equal(b, []byte{3, 1, 2, 3}) || !slices.Equal(was, []int{1, 2, 3}) || !slices.Equal(list, []int{9, 9, 9}) {
		t.Errorf("%x, %v, %v", b, was, list)
	}
}

// A list whose bytes end too soon is told.
func TestListTooShort(t *testing.T) {
	for _, b := range [][]byte{{}, {1}, {1, 0}, {1, 0, 7, 8}, {2, 0, 7, 8, 9}, {255, 255, 7, 8, 9}} {
		var list [][2]int
		if why := thrown(func() { List(Reader(&b), 2, &list, layPair) }); why != "too few bytes" || list != nil {
			t.Errorf("%x: %v, %v", b, why, list)
		}
	}
}

// thrown is what do throws.
func thrown(do func()) (why any) {
	defer func() { why = recover() }()
	do()
	return nil
}

// Bytes that end too soon are told, and stay where they are; what lies in memory
// behind them is not asked.
func TestTooFewBytes(t *testing.T) {
	room := []byte{1, 2, 3, 4}
	for have := range 4 {
		b, v := room[:have], 7
		by := Reader(&b)
		if why := thrown(func() { Part(by, 4, &v) }); why != "too few bytes" || v != 7 || len(b) != have {
			t.Errorf("%d bytes: %v, %d, %x", have, why, v, b)
		}
	}
}

// Need throws what it is told, where it is not so.
func TestNeed(t *testing.T) {
	if why := thrown(func() { Need(true, "why") }); why != nil {
		t.Errorf("%v", why)
	}
	if why := thrown(func() { Need(false, "why") }); why != "why" {
		t.Errorf("%v", why)
	}
}
