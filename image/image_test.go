package image

import (
	"bytes"
	"encoding/binary"
	"encoding/hex"
	"fmt"
	"hash/fnv"
	"math"
	"math/rand/v2"
	"slices"
	"strconv"
	"strings"
	"sync"
	"testing"

	"ceilidh/api"
	"ceilidh/game"
	"ceilidh/roster"
)

const (
	one  = 65536
	side = 256 * one
)

type chance = *rand.Rand

// What the document tells of a state's bytes, by nothing of the program's own.

// wantMay is what promise 7.1 asks of a state, with 6.1 and 8.1.
func wantMay(s api.State) bool {
	ok := s.Game.Frame >= 0 && s.Game.Frame <= 1048576 && len(s.Game.Shots) <= 32
	in := func(v int64, lo, hi int64) { ok = ok && v >= lo && v <= hi }
	for i, ship := range s.Game.Ships {
		ok = ok && ship.On == (s.Roster.Seats[i].Peer != -1)
		if !ship.On {
			ok = ok && ship == api.Ship{}
			continue
		}
		in(int64(ship.X), 0, side-1)
		in(int64(ship.Y), 0, side-1)
		in(int64(ship.VX), -8*one, 8*one)
		in(int64(ship.VY), -8*one, 8*one)
		in(int64(ship.Cool), 0, 10)
		in(int64(ship.Score), 0, 1<<30)
	}
	for _, shot := range s.Game.Shots {
		in(int64(shot.Owner), 0, 7)
		in(int64(shot.X), 0, side-1)
		in(int64(shot.Y), 0, side-1)
		in(int64(shot.VX), -6*one, 6*one)
		in(int64(shot.VY), -6*one, 6*one)
		in(int64(shot.Left), 1, 24)
	}
	in(int64(s.Roster.Version), 0, 1<<30)
	seen := map[int]bool{}
	for _, seat := range s.Roster.Seats {
		in(int64(seat.Peer), -1, 11)
		in(int64(seat.Gen), 0, 60000)
		if seat.Peer != -1 {
			ok = ok && !seen[seat.Peer] && seat.Gen >= 1
			seen[seat.Peer] = true
		}
	}
	return ok
}

// wantPut is what promise 7.1 tells of Put.
func wantPut(s api.State) ([]byte, int) {
	if !wantMay(s) {
		return nil, 1
	}
	var b []byte
	put := func(list ...any) {
		for _, v := range list {
			b, _ = binary.Append(b, binary.LittleEndian, v)
		}
	}
	put(uint32(s.Game.Frame), s.Game.Dice)
	for _, p := range s.Game.Ships {
		put(p.On)
		if p.On {
			put(p.X, p.Y, p.VX, p.VY, uint8(p.Cool), uint32(p.Score))
		}
	}
	put(uint8(len(s.Game.Shots)))
	for _, p := range s.Game.Shots {
		put(uint8(p.Owner), p.X, p.Y, p.VX, p.VY, uint8(p.Left))
	}
	put(uint32(s.Roster.Version))
	for _, p := range s.Roster.Seats {
		put(uint8(p.Peer+1), uint16(p.Gen))
	}
	return b, 0
}

// wantGet is what promise 7.1 tells of Get: b is read as it lies there, and is
// nothing unless Put makes just that.
func wantGet(b []byte) (api.State, int) {
	var s api.State
	in := bytes.NewReader(b)
	short := false
	get := func(v any) { short = binary.Read(in, binary.LittleEndian, v) != nil || short }
	number := func(size int) int {
		var all [8]byte
		get(all[:size])
		return int(binary.LittleEndian.Uint64(all[:]))
	}
	s.Game.Frame = number(4)
	get(&s.Game.Dice)
	for i := range s.Game.Ships {
		p := &s.Game.Ships[i]
		if p.On = number(1) != 0; p.On {
			for _, v := range []*int32{&p.X, &p.Y, &p.VX, &p.VY} {
				get(v)
			}
			p.Cool, p.Score = number(1), number(4)
		}
	}
	for range number(1) {
		p := api.Shot{Owner: number(1)}
		for _, v := range []*int32{&p.X, &p.Y, &p.VX, &p.VY} {
			get(v)
		}
		p.Left = number(1)
		s.Game.Shots = append(s.Game.Shots, p)
	}
	s.Roster.Version = number(4)
	for i := range s.Roster.Seats {
		s.Roster.Seats[i] = api.Seat{Peer: number(1) - 1, Gen: number(2)}
	}
	if again, code := wantPut(s); short || code != 0 || !bytes.Equal(again, b) {
		return api.State{}, 2
	}
	return s, 0
}

// wantSum is what promises 7.2 and 4.2 tell of bytes: the library has it too.
func wantSum(b []byte) uint64 {
	h := fnv.New64a()
	h.Write(b)
	return h.Sum64()
}

// wantSame tells whether a and b are alike in all parts: a text has all of them.
func wantSame(a, b api.State) bool {
	a.Game.Shots, b.Game.Shots = append([]api.Shot{}, a.Game.Shots...), append([]api.Shot{}, b.Game.Shots...)
	return fmt.Sprintf("%#v", a) == fmt.Sprintf("%#v", b)
}

// holdsPut tells where Put or Of of s isn't what is told of it, or where s was
// changed, or is shared; and holds what was put against what is got of it.
func holdsPut(t *testing.T, s api.State) {
	t.Helper()
	room := append(slices.Clone(s.Game.Shots), make([]api.Shot, 3)...) // nobody may write behind the list either
	s.Game.Shots = room[:len(s.Game.Shots)]
	before := slices.Clone(room)
	b, code := Put(s)
	want, ok := wantPut(s)
	if code != ok || !bytes.Equal(b, want) {
		t.Fatalf("Put(%+v):\n%x, %d, not\n%x, %d", s, b, code, want, ok)
	}
	sum := uint64(0)
	if ok == 0 {
		sum = wantSum(want)
		holdsGet(t, b)
	}
	if got := Of(s); got != sum {
		t.Errorf("Of(%+v): %#x, not %#x", s, got, sum)
	}
	if !slices.Equal(room, before) {
		t.Fatalf("what was put is changed: %+v", s)
	}
}

// holdsGet tells where Get or Sum of b isn't what is told of it, or where b was
// changed, or is shared, or what lies behind it was asked.
func holdsGet(t *testing.T, b []byte) {
	t.Helper()
	room := append(slices.Clone(b), 1, 0, 0, 0, 0, 0, 0, 0, 0)
	before := slices.Clone(room)
	b = room[:len(b)]
	got, code := Get(b)
	want, ok := wantGet(b)
	if code != ok || !wantSame(got, want) {
		t.Fatalf("Get(%x):\n%+v, %d, not\n%+v, %d", b, got, code, want, ok)
	}
	if Sum(b) != wantSum(b) {
		t.Errorf("Sum(%x): %#x", b, Sum(b))
	}
	if code == 0 {
		if again, code := Put(got); code != 0 || !bytes.Equal(again, b) {
			t.Fatalf("%x comes back as %x, %d", b, again, code)
		}
	}
	if !bytes.Equal(room, before) {
		t.Fatalf("what was got is changed: %x", b)
	}
}

// empty is the state with nothing on the field, and nobody in a slot.
func empty() api.State {
	var s api.State
	for i := range s.Roster.Seats {
		s.Roster.Seats[i].Peer = -1
	}
	return s
}

// full is a state with all that there may be, each part at its greatest.
func full() api.State {
	s := api.State{Game: api.Game{Frame: 1 << 20, Dice: math.MaxUint64}, Roster: api.Roster{Version: 1 << 30}}
	for i := range s.Game.Ships {
		s.Game.Ships[i] = api.Ship{On: true, X: side - 1, Y: side - 1, VX: 8 * one, VY: 8 * one, Cool: 10, Score: 1 << 30}
		s.Roster.Seats[i] = api.Seat{Peer: 11 - i, Gen: 60000}
	}
	for i := range 32 {
		s.Game.Shots = append(s.Game.Shots, api.Shot{Owner: i % 8, X: side - 1, Y: side - 1, VX: 6 * one, VY: 6 * one, Left: 24})
	}
	return s
}

// some is a state with some of all, in which no two numbers are alike.
func some() api.State {
	s := empty()
	s.Game.Frame, s.Game.Dice = 0x0a0b0c, 0x0102030405060708
	s.Game.Ships[1] = api.Ship{On: true, X: 0x112233, Y: 0x445566, VX: -2, VY: 0x31415, Cool: 9, Score: 0x3a3b3c3d}
	s.Game.Ships[6] = api.Ship{On: true, X: 0xffffff, Y: 0, VX: -524288, VY: 524288, Cool: 0, Score: 7}
	s.Game.Shots = []api.Shot{
		{Owner: 6, X: 0x010203, Y: 0x040506, VX: -393216, VY: 393216, Left: 24},
		{Owner: 3, X: 1, Y: 2, VX: 0, VY: -1, Left: 1},
	}
	s.Roster.Version = 0x21222324
	s.Roster.Seats[1] = api.Seat{Peer: 11, Gen: 60000}
	s.Roster.Seats[3] = api.Seat{Peer: -1, Gen: 0x0102}
	s.Roster.Seats[6] = api.Seat{Peer: 0, Gen: 1}
	return s
}

// someBytes are the bytes of some, written by hand from the chapter.
const someBytes = "0c0b0a00" + "0807060504030201" +
	"00" + "01" + "33221100" + "66554400" + "feffffff" + "15140300" + "09" + "3d3c3b3a" + "00000000" +
	"01" + "ffffff00" + "00000000" + "0000f8ff" + "00000800" + "00" + "07000000" + "00" +
	"02" + "06" + "03020100" + "06050400" + "0000faff" + "00000600" + "18" +
	"03" + "01000000" + "02000000" + "00000000" + "ffffffff" + "01" +
	"24232221" + "000000" + "0c60ea" + "000000" + "000201" + "000000" + "000000" + "010100" + "000000"

// Promise 7.1: each number at its place, the least byte first.
func TestBytesByHand(t *testing.T) {
	want, err := hex.DecodeString(someBytes)
	if err != nil {
		t.Fatal(err)
	}
	b, code := Put(some())
	if code != api.OK || !bytes.Equal(b, want) {
		t.Errorf("%x, %d, not\n%x", b, code, want)
	}
	s, code := Get(want)
	if code != api.OK || !wantSame(s, some()) {
		t.Errorf("%+v, %d", s, code)
	}
	holdsPut(t, some())
}

// Promise 7.1: how many bytes there are, from nothing to all.
func TestLengths(t *testing.T) {
	if b, code := Put(empty()); code != api.OK || !bytes.Equal(b, make([]byte, 49)) {
		t.Errorf("nothing on the field: %x, %d", b, code)
	}
	if s, code := Get(make([]byte, 49)); code != api.OK || !wantSame(s, empty()) {
		t.Errorf("49 noughts: %+v, %d", s, code)
	}
	for ships := range api.Slots + 1 {
		for shots := range api.MaxShots + 1 {
			s := full()
			s.Game.Shots = s.Game.Shots[:shots]
			for i := ships; i < api.Slots; i++ {
				s.Game.Ships[i], s.Roster.Seats[i].Peer = api.Ship{}, -1
			}
			if b, code := Put(s); code != api.OK || len(b) != 49+21*ships+18*shots {
				t.Errorf("%d ships, %d shots: %d bytes, %d", ships, shots, len(b), code)
			}
			holdsPut(t, s)
		}
	}
	s := empty()
	s.Game.Shots = []api.Shot{} // is none
	holdsPut(t, s)
}

// part is a part of a state, and what it may be in full.
type part struct {
	name   string
	lo, hi int
	set    func(s *api.State, v int)
}

// parts are all of them that are numbers within limits.
func parts() []part {
	list := []part{
		{"Frame", 0, 1 << 20, func(s *api.State, v int) { s.Game.Frame = v }},
		{"Version", 0, 1 << 30, func(s *api.State, v int) { s.Roster.Version = v }},
	}
	for i := range api.Slots {
		list = append(list,
			part{"ship's X", 0, side - 1, func(s *api.State, v int) { s.Game.Ships[i].X = int32(v) }},
			part{"ship's Y", 0, side - 1, func(s *api.State, v int) { s.Game.Ships[i].Y = int32(v) }},
			part{"ship's VX", -8 * one, 8 * one, func(s *api.State, v int) { s.Game.Ships[i].VX = int32(v) }},
			part{"ship's VY", -8 * one, 8 * one, func(s *api.State, v int) { s.Game.Ships[i].VY = int32(v) }},
			part{"ship's Cool", 0, 10, func(s *api.State, v int) { s.Game.Ships[i].Cool = v }},
			part{"ship's Score", 0, 1 << 30, func(s *api.State, v int) { s.Game.Ships[i].Score = v }},
			part{"seat's Gen", 1, 60000, func(s *api.State, v int) { s.Roster.Seats[i].Gen = v }},
		)
	}
	for i := range api.MaxShots {
		list = append(list,
			part{"shot's Owner", 0, 7, func(s *api.State, v int) { s.Game.Shots[i].Owner = v }},
			part{"shot's X", 0, side - 1, func(s *api.State, v int) { s.Game.Shots[i].X = int32(v) }},
			part{"shot's Y", 0, side - 1, func(s *api.State, v int) { s.Game.Shots[i].Y = int32(v) }},
			part{"shot's VX", -6 * one, 6 * one, func(s *api.State, v int) { s.Game.Shots[i].VX = int32(v) }},
			part{"shot's VY", -6 * one, 6 * one, func(s *api.State, v int) { s.Game.Shots[i].VY = int32(v) }},
			part{"shot's Left", 1, 24, func(s *api.State, v int) { s.Game.Shots[i].Left = v }},
		)
	}
	return list
}

// Promise 7.1: each part at its limits is put; beside them it is not.
func TestLimits(t *testing.T) {
	for _, p := range parts() {
		for _, v := range []int{p.lo, p.hi, p.lo + (p.hi-p.lo)/2, p.lo - 1, p.hi + 1, math.MinInt32, math.MaxInt32} {
			s := full()
			p.set(&s, v)
			want := api.ErrArg
			if p.lo <= v && v <= p.hi {
				want = api.OK
			}
			if _, code := Put(s); code != want {
				t.Errorf("%s %d: %d, not %d", p.name, v, code, want)
			}
			holdsPut(t, s)
		}
	}
}

// Promise 7.1: what is beyond the bytes that there are for it is not put as if
// it were within.
func TestTooWide(t *testing.T) {
	for _, p := range parts() {
		if strings.Contains(p.name, "X") || strings.Contains(p.name, "Y") {
			continue // they have no more than their 32 bits
		}
		for _, bit := range []int{8, 16, 32, strconv.IntSize - 1} {
			wide := 1
			wide <<= bit // 0, where an int is that short
			v := p.lo + wide
			if p.lo <= v && v <= p.hi {
				continue
			}
			s := full()
			p.set(&s, v)
			if b, code := Put(s); code != api.ErrArg || b != nil || Of(s) != 0 {
				t.Errorf("%s %d: %x, %d, %#x", p.name, v, b, code, Of(s))
			}
		}
	}
}

// Promise 7.1: whoever has a slot has a ship, and nobody else; no peer has two
// slots; a slot that was never given has nobody.
func TestShipsAndSeats(t *testing.T) {
	for slot := range api.Slots {
		for name, spoil := range map[string]func(s *api.State){
			"a seat without a ship":     func(s *api.State) { s.Game.Ships[slot] = api.Ship{} },
			"a ship without a seat":     func(s *api.State) { s.Roster.Seats[slot].Peer = -1 },
			"ships and seats exchanged": func(s *api.State) { s.Game.Ships[slot], s.Roster.Seats[(slot+1)%8].Peer = api.Ship{}, -1 },
			"not On, and something":     func(s *api.State) { s.Game.Ships[slot].On, s.Roster.Seats[slot].Peer = false, -1 },
			"a peer below nobody":       func(s *api.State) { s.Roster.Seats[slot].Peer = -2 },
			"no peer":                   func(s *api.State) { s.Roster.Seats[slot].Peer = 12 },
			"a peer like nobody":        func(s *api.State) { s.Roster.Seats[slot].Peer = 255 },
			"a peer twice":              func(s *api.State) { s.Roster.Seats[slot].Peer = s.Roster.Seats[(slot+3)%8].Peer },
			"Gen 0, and a peer":         func(s *api.State) { s.Roster.Seats[slot].Gen = 0 },
			"a shot too many":           func(s *api.State) { s.Game.Shots = append(s.Game.Shots, s.Game.Shots[slot]) },
			"shots like few":            func(s *api.State) { s.Game.Shots = slices.Repeat(s.Game.Shots[:1], 256+slot) },
		} {
			s := full()
			spoil(&s)
			if b, code := Put(s); code != api.ErrArg || b != nil || Of(s) != 0 {
				t.Errorf("slot %d, %s: %x, %d, %#x", slot, name, b, code, Of(s))
			}
			holdsPut(t, s)
		}
		s := full()
		s.Game.Ships[slot], s.Roster.Seats[slot].Peer = api.Ship{}, -1
		if _, code := Put(s); code != api.OK {
			t.Errorf("slot %d, nobody: %d", slot, code)
		}
		s = empty()
		s.Game.Ships[slot].On, s.Roster.Seats[slot] = true, api.Seat{Peer: slot + 4, Gen: 1}
		if _, code := Put(s); code != api.OK {
			t.Errorf("slot %d alone: %d", slot, code)
		}
		holdsPut(t, s)
	}
	if b, code := Put(api.State{}); code != api.ErrArg || b != nil || Of(api.State{}) != 0 {
		t.Errorf("the zero State, in which peer 0 has all slots: %x, %d", b, code)
	}
}

// Promise 7.1: bytes that end too soon, or go on, are nothing; what lies in
// memory behind them does not count.
func TestCutAndMore(t *testing.T) {
	for _, s := range []api.State{empty(), some(), full()} {
		b, _ := Put(s)
		for n := range b {
			if got, code := Get(b[:n]); code != api.ErrBytes || !wantSame(got, api.State{}) {
				t.Fatalf("%d of %d bytes: %+v, %d", n, len(b), got, code)
			}
			holdsGet(t, b[n:])
		}
		for _, more := range [][]byte{{0}, {1}, make([]byte, 2), make([]byte, 18), make([]byte, 5000), b} {
			if got, code := Get(slices.Concat(b, more)); code != api.ErrBytes || !wantSame(got, api.State{}) {
				t.Errorf("%d bytes and %d more: %+v, %d", len(b), len(more), got, code)
			}
			holdsGet(t, slices.Concat(more, b))
		}
	}
	for _, b := range [][]byte{nil, {}, {0}, bytes.Repeat([]byte{1}, 49), bytes.Repeat([]byte{255}, 49), bytes.Repeat([]byte{255}, 100_000), make([]byte, 100_000)} {
		if got, code := Get(b); code != api.ErrBytes || !wantSame(got, api.State{}) {
			t.Errorf("%d bytes: %+v, %d", len(b), got, code)
		}
	}
}

// Promise 7.1: each byte as each other one: either it is what another state is
// put as, or it is nothing.
func TestTurnedBytes(t *testing.T) {
	taken, refused := 0, 0
	for _, s := range []api.State{empty(), some()} {
		b, _ := Put(s)
		for at := range b {
			was := b[at]
			for v := range 256 {
				b[at] = byte(v)
				holdsGet(t, b)
				if _, code := Get(b); code == api.OK {
					taken++
				} else {
					refused++
				}
			}
			b[at] = was
		}
	}
	if taken < 1000 || refused < 1000 {
		t.Errorf("%d are taken, %d are nothing", taken, refused)
	}
}

// Promise 7.1: a state that may not be isn't got, however well its bytes lie.
func TestWrongWithin(t *testing.T) {
	b, _ := Put(some())
	spoilt := func(at int, with ...byte) []byte {
		c := slices.Clone(b)
		copy(c[at:], with)
		return c
	}
	const ship, shots, version = 4 + 8 + 1, 4 + 8 + 8 + 42, 4 + 8 + 8 + 42 + 1 + 36
	seats := version + 4
	for name, c := range map[string][]byte{
		"Frame too great":          spoilt(0, 1, 0, 0x10, 0),
		"Frame like a negative":    spoilt(0, 255, 255, 255, 255),
		"On 2":                     spoilt(ship, 2),
		"On 255":                   spoilt(ship, 255),
		"X at Side":                spoilt(ship+1, 0, 0, 0, 1),
		"X below 0":                spoilt(ship+1, 255, 255, 255, 255),
		"VX beyond Speed":          spoilt(ship+9, 1, 0, 8, 0),
		"VX beyond Speed, back":    spoilt(ship+9, 255, 255, 0xf7, 255),
		"Cool 11":                  spoilt(ship+17, 11),
		"Score too great":          spoilt(ship+18, 1, 0, 0, 0x40),
		"Score like a negative":    spoilt(ship+18, 0, 0, 0, 0x80),
		"33 shots":                 spoilt(shots, 33),
		"one shot less":            spoilt(shots, 1),
		"one shot more":            spoilt(shots, 3),
		"Owner 8":                  spoilt(shots+1, 8),
		"Left 0":                   spoilt(shots+18, 0),
		"Left 25":                  spoilt(shots+18, 25),
		"Version too great":        spoilt(version, 1, 0, 0, 0x40),
		"Version like a negative":  spoilt(version, 255, 255, 255, 255),
		"Peer 12":                  spoilt(seats+3, 13),
		"Peer 255":                 spoilt(seats+3, 255),
		"a ship without a seat":    spoilt(seats+3, 0),
		"a seat without a ship":    spoilt(seats, 5, 1, 0),
		"a peer twice":             spoilt(seats+3, 1),
		"Gen 0, and a peer":        spoilt(seats+3, 12, 0, 0),
		"Gen too great":            spoilt(seats+3, 12, 0x61, 0xea),
		"Gen too great, of nobody": spoilt(seats, 0, 0x61, 0xea),
	} {
		if got, code := Get(c); code != api.ErrBytes || !wantSame(got, api.State{}) {
			t.Errorf("%s: %+v, %d", name, got, code)
		}
		holdsGet(t, c)
	}
	for name, c := range map[string][]byte{
		"as it is":   spoilt(0),
		"another X":  spoilt(ship+1, 255, 255, 255, 0),
		"Cool 10":    spoilt(ship+17, 10),
		"Owner gone": spoilt(shots+1, 7),
		"MaxFrame":   spoilt(0, 0, 0, 0x10, 0),
	} {
		if _, code := Get(c); code != api.OK {
			t.Errorf("%s: %d", name, code)
		}
		holdsGet(t, c)
	}
}

// Promise 7.1: more than 32 shots are not got, though all their bytes are there.
func TestTooManyShots(t *testing.T) {
	for count := range 256 {
		b := make([]byte, 20)
		b = append(b, byte(count))
		for range count {
			b = append(b, make([]byte, 17)...)
			b = append(b, 1)
		}
		b = append(b, make([]byte, 28)...)
		if _, code := Get(b); (code == api.OK) != (count <= 32) {
			t.Errorf("%d shots: %d", count, code)
		}
		holdsGet(t, b)
	}
}

// Promise 7.2: Sum of any bytes, also of none, and of such as are no state.
func TestSum(t *testing.T) {
	for _, c := range []struct {
		b    []byte
		want uint64
	}{
		{nil, 14695981039346656037},
		{[]byte{}, 14695981039346656037},
		{[]byte{0}, 0xaf63bd4c8601b7df},
		{[]byte("a"), 0xaf63dc4c8601ec8c},
		{[]byte("foobar"), 0x85944171f73967e8},
		{[]byte{255, 254}, 0xa99c807b6f645b0},
		{bytes.Repeat([]byte("x"), 100_000), 0xfd931f27c2d26fa5},
	} {
		if got := Sum(c.b); got != c.want {
			t.Errorf("Sum(%.20x): %#x, not %#x", c.b, got, c.want)
		}
	}
	b := bytes.Repeat([]byte("y"), 9)
	Sum(b)
	if string(b) != "yyyyyyyyy" {
		t.Errorf("what was summed is changed: %s", b)
	}
}

// Promise 7.2: each part of a state counts: turned alone, it gives another Sum.
func TestOfTellsApart(t *testing.T) {
	seen := map[uint64]string{Of(full()): "full", Of(empty()): "empty", Of(some()): "some"}
	see := func(name string, s api.State) {
		if was, twice := seen[Of(s)]; twice {
			t.Errorf("%s is as %s", name, was)
		}
		seen[Of(s)] = name
		holdsPut(t, s)
	}
	for i, p := range parts() {
		s := full()
		if p.set(&s, p.lo); wantSame(s, full()) {
			p.set(&s, p.hi)
		}
		see(fmt.Sprint(p.name, i), s)
	}
	for bit := range 64 {
		s := full()
		s.Game.Dice ^= 1 << bit
		see(fmt.Sprint("dice ", bit), s)
	}
	for slot := range api.Slots {
		s := full()
		s.Roster.Seats[slot].Peer = 0
		see(fmt.Sprint("peer of ", slot), s)
	}
	s := full()
	s.Game.Shots[0], s.Game.Shots[31] = s.Game.Shots[31], s.Game.Shots[0]
	see("shots in another order", s)
}

// anyState is a state that may be, by chance.
func anyState(r chance) api.State {
	s := empty()
	s.Game.Frame, s.Game.Dice, s.Roster.Version = r.IntN(1<<20+1), r.Uint64(), r.IntN(1<<30+1)
	place := func() int32 { return r.Int32N(side) }
	speed := func(top int32) int32 { return r.Int32N(2*top+1) - top }
	for i, peer := range r.Perm(12)[:8] {
		s.Roster.Seats[i].Gen = r.IntN(60001)
		if r.IntN(3) > 0 {
			s.Roster.Seats[i] = api.Seat{Peer: peer, Gen: 1 + r.IntN(60000)}
			s.Game.Ships[i] = api.Ship{On: true, X: place(), Y: place(), VX: speed(8 * one), VY: speed(8 * one), Cool: r.IntN(11), Score: r.IntN(1<<30 + 1)}
		}
	}
	for range r.IntN(33) {
		s.Game.Shots = append(s.Game.Shots, api.Shot{Owner: r.IntN(8), X: place(), Y: place(), VX: speed(6 * one), VY: speed(6 * one), Left: 1 + r.IntN(24)})
	}
	return s
}

// Promises 7.1 to 7.3: any state goes through the wire and comes back; with a
// byte turned, or lost, or doubled, it is another state's bytes or none.
func TestThereAndBack(t *testing.T) {
	r := rand.New(rand.NewPCG(7, 3))
	for range 3000 {
		s := anyState(r)
		b, code := Put(s)
		if code != api.OK {
			t.Fatalf("%+v: %d", s, code)
		}
		back, code := Get(b)
		if code != api.OK || !wantSame(back, s) || Of(back) != Sum(b) || Of(s) != Sum(b) {
			t.Fatalf("%+v comes back as %+v, %d", s, back, code)
		}
		holdsPut(t, s)
		at := r.IntN(len(b))
		turned := slices.Clone(b)
		turned[at] ^= byte(1 + r.IntN(255))
		holdsGet(t, turned)
		holdsGet(t, slices.Delete(slices.Clone(b), at, at+1))
		holdsGet(t, slices.Insert(slices.Clone(b), at, b[at]))
		if got, code := Get(turned); code == api.OK && wantSame(got, s) {
			t.Fatalf("two ways to write %+v", s)
		}
	}
}

// goOn is s a frame later, in which by chance somebody comes or goes, and each
// that is there does something.
func goOn(s api.State, r chance) api.State {
	slot := r.IntN(api.Slots)
	switch seat := s.Roster.Seats[slot]; {
	case seat.Peer == -1:
		s.Roster, _ = roster.Take(s.Roster, slot, slot+r.IntN(4))
		if s.Roster.Seats[slot].Peer != -1 {
			s.Game, _ = game.Spawn(s.Game, slot)
		}
	case r.IntN(9) == 0:
		s.Roster, _ = roster.Give(s.Roster, slot)
		s.Game, _ = game.Remove(s.Game, slot)
	}
	var in [api.Slots]api.Input
	for i := range in {
		in[i] = api.Input{X: int8(r.Int()), Y: int8(r.Int()), B: uint8(r.Int())}
	}
	s.Game, _ = game.Step(s.Game, in)
	return s
}

// Promise 7.3, T1: who goes on from an image, at whatever frame it was made,
// comes to what the others have, frame by frame.
func TestGoOnFromAnImage(t *testing.T) {
	first := empty()
	first.Game = game.New("late")
	states := []api.State{first}
	const frames = 300
	for frame := range frames {
		states = append(states, goOn(states[frame], rand.New(rand.NewPCG(1, uint64(frame)))))
	}
	if last := states[frames]; last.Roster.Version < 10 || len(last.Game.Shots) < 5 {
		t.Fatalf("nothing goes on: %+v", last)
	}
	for from := 0; from < frames; from += 7 {
		b, code := Put(states[from])
		s, back := Get(b)
		if code != api.OK || back != api.OK {
			t.Fatalf("frame %d: %d, %d", from, code, back)
		}
		for frame := from; frame < frames; frame++ {
			s = goOn(s, rand.New(rand.NewPCG(1, uint64(frame))))
			if Of(s) != Of(states[frame+1]) || !wantSame(s, states[frame+1]) {
				t.Fatalf("from frame %d: frame %d differs", from, frame+1)
			}
		}
	}
}

// Promise 7.3: what is answered is the caller's own: neither the bytes nor the
// state change with what they were made of, or with each other.
func TestOwn(t *testing.T) {
	s := full()
	b, _ := Put(s)
	c, _ := Put(s)
	first, _ := Get(b)
	second, _ := Get(b)
	for i := range s.Game.Shots {
		s.Game.Shots[i].Left = 3
		first.Game.Shots[i].Left = 2
	}
	if again, code := Put(second); code != api.OK || !bytes.Equal(again, c) {
		t.Errorf("what was got is shared: %+v", second)
	}
	if !bytes.Equal(b, c) {
		t.Error("what was put is shared with the state")
	}
	clear(b)
	if want, _ := wantPut(full()); !bytes.Equal(c, want) || !wantSame(second, full()) {
		t.Error("what was put is shared with other bytes")
	}
}

// Promise 7.3, T1: peers that have the same state have the same bytes, whoever
// puts or gets meanwhile, and whatever was asked ahead.
func TestManyPeers(t *testing.T) {
	states := []api.State{empty(), some(), full(), {}}
	var peers sync.WaitGroup
	for i := range 8 {
		peers.Go(func() {
			for n := range 200 {
				s := states[(i+n)%4]
				want, ok := wantPut(s)
				b, code := Put(s)
				if code != ok || !bytes.Equal(b, want) || code == api.OK && Of(s) != wantSum(want) {
					t.Errorf("peer %d: %x, %d", i, b, code)
				}
				if got, code := Get(b); ok == api.OK && (code != api.OK || !wantSame(got, s)) {
					t.Errorf("peer %d: %+v, %d", i, got, code)
				}
			}
		})
	}
	peers.Wait()
}

// Promises 7.1 to 7.3: whatever bytes there are; and bytes of a state, of which
// one is anything.
func FuzzAll(f *testing.F) {
	for _, s := range []api.State{empty(), some(), full()} {
		b, _ := wantPut(s)
		f.Add(b, uint64(len(b)), uint8(7))
	}
	f.Add([]byte(nil), uint64(0), uint8(255))
	f.Fuzz(func(t *testing.T, b []byte, seed uint64, v uint8) {
		holdsGet(t, b)
		r := rand.New(rand.NewPCG(seed, 7))
		holdsPut(t, anyState(r))
		c, _ := Put(anyState(r))
		c[r.IntN(len(c))] = v
		holdsGet(t, c)
	})
}
