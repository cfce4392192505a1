package memory

import "cochineal/api"

// Kinds of addresses.
const (
	none = iota // no address, or addresses of more than one kind
	ram
	devices
	free
	rom
)

// area is all addresses of a kind.
type area struct {
	kind int
	from int
	to   int
}

var areas = [...]area{
	{ram, RAM, Devices - 1},
	{devices, Devices, Free - 1},
	{free, Free, ROM - 1},
	{rom, ROM, api.Size - 1},
}

// kindOf is the kind that two addresses both have.
func kindOf(from, to int) int {
look:
	for _, a := range areas {
		for _, at := range [...]int{from, to} {
			if at < a.from || at > a.to {
				continue look
			}
		}
		return a.kind
	}
	return none
}

// ofOneKind tells whether all addresses from one to another are of RAM, or all of ROM.
func ofOneKind(from, to int) bool {
	k := kindOf(from, to)
	return from <= to && (k == ram || k == rom)
}
