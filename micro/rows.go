package micro

import "cochineal/opcode"

// Ends of rows.
const (
	none   = iota // all steps are the row's own
	got           // a byte is used
	put           // a register is written
	turned        // a byte is turned
	pushed        // place and flags go on the stack, and a vector is taken
	vector        // a vector is taken
)

// key is an opcode, or, without a name, each one of its mode and kind.
type key opcode.Op

// row is the steps of an opcode: its first ones, and its end.
type row struct {
	of    key
	first []int
	end   int
}

// cut is where an end stands among all of them.
type cut struct {
	from int
	to   int
}

var rows = [...]row{
	{key{"", opcode.Imm, opcode.Reads}, []int{Value}, none},
	{key{"", opcode.Zp, opcode.Reads}, []int{Low}, got},
	{key{"", opcode.ZpX, opcode.Reads}, []int{Low, Index}, got},
	{key{"", opcode.ZpY, opcode.Reads}, []int{Low, Index}, got},
	{key{"", opcode.Abs, opcode.Reads}, []int{Low, High}, got},
	{key{"", opcode.AbsX, opcode.Reads}, []int{Low, High, Near}, got},
	{key{"", opcode.AbsY, opcode.Reads}, []int{Low, High, Near}, got},
	{key{"", opcode.IndX, opcode.Reads}, []int{Low, Index, PtrLow, PtrHigh}, got},
	{key{"", opcode.IndY, opcode.Reads}, []int{Low, PtrLow, PtrHigh, Near}, got},

	{key{"", opcode.Zp, opcode.Writes}, []int{Low}, put},
	{key{"", opcode.ZpX, opcode.Writes}, []int{Low, Index}, put},
	{key{"", opcode.ZpY, opcode.Writes}, []int{Low, Index}, put},
	{key{"", opcode.Abs, opcode.Writes}, []int{Low, High}, put},
	{key{"", opcode.AbsX, opcode.Writes}, []int{Low, High, Near}, put},
	{key{"", opcode.AbsY, opcode.Writes}, []int{Low, High, Near}, put},
	{key{"", opcode.IndX, opcode.Writes}, []int{Low, Index, PtrLow, PtrHigh}, put},
	{key{"", opcode.IndY, opcode.Writes}, []int{Low, PtrLow, PtrHigh, Near}, put},

	{key{"", opcode.Zp, opcode.Turns}, []int{Low}, turned},
	{key{"", opcode.ZpX, opcode.Turns}, []int{Low, Index}, turned},
	{key{"", opcode.Abs, opcode.Turns}, []int{Low, High}, turned},
	{key{"", opcode.AbsX, opcode.Turns}, []int{Low, High, Near}, turned},

	{key{"JMP", opcode.Abs, opcode.Jumps}, []int{Low, Jump}, none},
	{key{"JMP", opcode.Ind, opcode.Jumps}, []int{Low, High, FarLow, FarHigh}, none},
	{key{"JSR", opcode.Abs, opcode.Jumps}, []int{Low, Peek, PushHigh, PushLow, Jump}, none},
	{key{"RTS", opcode.Imp, opcode.Jumps}, []int{Next, Peek, PullLow, PullHigh, Skip}, none},
	{key{"RTI", opcode.Imp, opcode.Jumps}, []int{Next, Peek, PullP, PullLow, PullHigh}, none},
	{key{"PHA", opcode.Imp, opcode.Jumps}, []int{Next, PushA}, none},
	{key{"PHP", opcode.Imp, opcode.Jumps}, []int{Next, PushP}, none},
	{key{"PLA", opcode.Imp, opcode.Jumps}, []int{Next, Peek, PullA}, none},
	{key{"PLP", opcode.Imp, opcode.Jumps}, []int{Next, Peek, PullP}, none},
	{key{"BRK", opcode.Imp, opcode.Jumps}, []int{Skip}, pushed},
	{key{"", opcode.Rel, opcode.Jumps}, []int{Offset, Take, Cross}, none},

	{key{"", opcode.Imp, opcode.Alone}, []int{Next}, none},
	{key{"", opcode.Acc, opcode.Alone}, []int{Next}, none},
}

// ending is what steps end with, cut out of the row of all ends.
func ending(end int) []int {
	all := [...]int{Get, Put, Old, Back, New, PushHigh, PushLow, PushP, VecLow, VecHigh}
	c := [...]cut{none: {}, got: {0, 1}, put: {1, 2}, turned: {2, 5}, pushed: {5, 10}, vector: {8, 10}}[end]
	// What is put behind an end is not to be written over the next one.
	return all[c.from:c.to:c.to]
}
