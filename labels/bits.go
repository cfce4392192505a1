package labels

import (
	"cochineal/api"
	"cochineal/policy"
)

// bits are some of each byte's, by addresses.
type bits [api.Size]byte

// mark lets the bits of a span of a policy that may be stand at its addresses.
func (b *bits) mark(s policy.Span) {
	for at := s.From; at <= s.To; at++ {
		b[at] = s.Bits
	}
}

// of is those at an address, none of what is no address.
func (b *bits) of(at int) byte {
	if at < 0 || at >= api.Size {
		return 0
	}
	return b[at]
}
