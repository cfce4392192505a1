// Package taint is layer 1: bytes of which some bits are secret.
package taint

import (
	"cochineal/api"
)

const (
	all  = 255 // every bit of a byte
	high = 7   // the place of the highest bit
)

// Of is a byte that is not secret.
func Of(v int) api.Byte { return api.Byte{V: byte(v)} }

// Same tells whether two bytes have the same secret bits, and the same others.
func Same(a, b api.Byte) bool {
	return a.T == b.T && a.V&^a.T == b.V&^b.T
}

// And is the bits that both have.
func And(a, b api.Byte) api.Byte { return join(a, b, gate{both: all}.turn) }

// Or is the bits that one has.
func Or(a, b api.Byte) api.Byte { return join(a, b, gate{one: all, both: all}.turn) }

// Xor is the bits that just one has.
func Xor(a, b api.Byte) api.Byte { return join(a, b, gate{one: all}.turn) }

// Left is a byte whose bits go up, and the bit that goes out.
func Left(a api.Byte, in api.Bit) (api.Byte, api.Bit) {
	return Put(api.Byte{V: a.V << 1, T: a.T << 1}, 0, in), Bit(a, high)
}

// Right is a byte whose bits go down, and the bit that goes out.
func Right(a api.Byte, in api.Bit) (api.Byte, api.Bit) {
	return Put(api.Byte{V: a.V >> 1, T: a.T >> 1}, high, in), Bit(a, 0)
}

// Bit is the bit at a place.
func Bit(a api.Byte, i int) api.Bit {
	if !isPlace(i) {
		return api.Bit{}
	}
	return api.Bit{V: a.V>>i&1 == 1, T: a.T>>i&1 == 1}
}

// Put is a byte with a bit put at a place.
func Put(a api.Byte, i int, b api.Bit) api.Byte {
	if !isPlace(i) {
		return a
	}
	return api.Byte{V: with(a.V, i, b.V), T: with(a.T, i, b.T)}
}

// Zero tells whether a byte is 0.
func Zero(a api.Byte) api.Bit {
	e := ends(a)
	return api.Bit{V: a.V == 0, T: e[0] == 0 && e[1] != 0}
}

// Spread is the secret bits, and all above the lowest one.
func Spread(t byte) byte {
	// -t keeps the lowest bit of t, and turns each one above it: both together have all of these.
	return t | -t
}

// Erase is a byte of which nothing is secret.
func Erase(a api.Byte) api.Byte { return api.Byte{V: a.V} }

// gate is which bits of two bytes come to 1: of those that just one has, and of those that both have.
type gate struct {
	one  byte
	both byte
}

// turn is what the bits of two bytes come to.
func (g gate) turn(x, y byte) byte { return (x^y)&g.one | x&y&g.both }

// join is what two bytes come to, and which of its bits hang on secrets.
func join(a, b api.Byte, turn func(x, y byte) byte) api.Byte {
	var ones, noughts byte
	may := func(x, y byte) {
		bits := turn(x, y)
		ones |= bits
		noughts |= ^bits
	}
	for _, x := range ends(a) {
		for _, y := range ends(b) {
			may(x, y)
		}
	}
	return api.Byte{V: turn(a.V, b.V), T: ones & noughts}
}

// ends is the least and the greatest number that a byte may be.
// As no bit hangs on another one, these two have each bit as all that it may be.
func ends(a api.Byte) [2]byte { return [2]byte{a.V &^ a.T, a.V | a.T} }

// with is bits, the one at a place being as told.
func with(bits byte, i int, is bool) byte {
	if is {
		return bits | 1<<i
	}
	return bits &^ (1 << i)
}

// isPlace tells whether a byte has a bit there.
func isPlace(i int) bool { return i >= 0 && i <= high }
