// Package lay lays numbers as bytes, the least byte first. A layer tells the
// layout of a thing once, by a Pass: it serves to put the thing and to get it,
// so that what is put is what is got.
package lay

// Pass takes a number of so many bytes by: a writer puts the one that it is
// handed, and answers it; a reader answers the one that stands there.
type Pass func(size int, v uint64) uint64

// Number is what a part of a thing may be.
type Number interface {
	int | int8 | int32 | uint8 | uint16 | uint32 | uint64
}

// Writer puts numbers behind b.
func Writer(b *[]byte) Pass {
	return func(size int, v uint64) uint64 {
		for at := range size {
			*b = append(*b, byte(v>>(8*at)))
		}
		return v
	}
}

// Reader takes numbers from the front of b; it throws, if b ends too soon.
func Reader(b *[]byte) Pass {
	return func(size int, _ uint64) uint64 {
		Need(size <= len(*b), "too few bytes")
		v := uint64(0)
		for at, one := range (*b)[:size] {
			v |= uint64(one) << (8 * at)
		}
		*b = (*b)[size:]
		return v
	}
}

// Part takes a part of so many bytes by.
func Part[T Number](by Pass, size int, part *T) {
	*part = T(by(size, uint64(*part)))
}

// List takes a list by, in memory of its own, since the one that was handed in is
// only read: of so many bytes how many parts it has, then each of them.
func List[T any](by Pass, size int, list *[]T, each func(by Pass, part *T)) {
	count := len(*list)
	Part(by, size, &count)
	own := make([]T, count)
	copy(own, *list)
	for i := range own {
		each(by, &own[i])
	}
	*list = own
}

// Need throws why, unless ok: the layer's face catches it, and tells a code for it.
func Need(ok bool, why string) {
	if !ok {
		panic(why)
	}
}
