package core

import (
	"cochineal/api"
	"cochineal/sums"
	"cochineal/taint"
)

const bits = 8 // of a byte

// pair is the two bytes of an address.
type pair struct {
	high api.Byte
	low  api.Byte
}

// pairOf is the bytes of a number, modulo all addresses.
func pairOf(n int) pair { return pair{taint.Of(n >> bits), taint.Of(n)} }

// at is the address.
func (p pair) at() int { return int(p.high.V)<<bits | int(p.low.V) }

// isSecret tells whether a bit of the address is secret.
func (p pair) isSecret() bool { return p.high.T != 0 || p.low.T != 0 }

// more is the address one more.
func (p pair) more() pair {
	p.low = sums.Step(p.low, 1)
	if p.low.V == 0 {
		p.high = sums.Step(p.high, 1)
	}
	return p
}

// far is the place to which a branch goes.
func (p pair) far(by api.Byte) pair { return pairOf(p.at() + int(int8(by.V))) }
