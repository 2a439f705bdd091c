// Package stick is from the hand to a number: see DOC.md, chapter 1.
package stick

import (
	"math"

	"ceilidh/api"
)

const (
	most  = 127     // an axis at its end
	still = 1.0 / 8 // nearer to the middle than this, a stick counts as let go
	near  = 8       // axes that differ by no more are near
)

// Axis is where the stick is along an axis, of whatever a driver tells.
func Axis(f float64) int8 {
	// What is no place on the axis is asked for first: the reckoning behind
	// holds for finite numbers only.
	switch {
	case math.IsNaN(f):
		return 0
	case math.IsInf(f, 1):
		return most
	case math.IsInf(f, -1):
		return -most
	case f == 0: // so is -0
		return 0
	case f >= 1:
		return most
	case f <= -1:
		return -most
	case math.Abs(f) < still:
		return 0
	}
	return round(f)
}

// round is f, which lies between -1 and 1 and isn't 0, in steps of the axis.
func round(f float64) int8 {
	// The product is converted so that it is rounded by itself: on some
	// machines it would else be fused with the sum.
	steps := float64(f * most)
	if math.Signbit(f) {
		return int8(steps - 0.5)
	}
	return int8(steps + 0.5)
}

// Value is the place of a on its axis, from -1 to 1.
func Value(a int8) float64 {
	if a < -most {
		a = -most
	}
	return float64(a) / most
}

// Read is the input that a stick and buttons make.
func Read(x, y float64, buttons uint8) api.Input {
	return api.Input{X: Axis(x), Y: Axis(y), B: buttons}
}

// May tells whether in is an input that a stick can make.
func May(in api.Input) bool {
	return in.X >= -most && in.Y >= -most
}

// Near tells whether a and b are so alike that one may stand for the other.
func Near(a, b api.Input) bool {
	return a.B == b.B && beside(a.X, b.X) && beside(a.Y, b.Y)
}

// beside reckons in int: the difference of two int8 may be no int8.
func beside(a, b int8) bool {
	gap := int(a) - int(b)
	return -near <= gap && gap <= near
}
