package core

import (
	"cochineal/api"
	"cochineal/flags"
	"cochineal/sums"
	"cochineal/taint"
)

// set puts a flag.
func (s *state) set(i int, b api.Bit) { s.p = flags.Set(s.p, i, b) }

// load lets a register be a byte, of which flags are told.
func (s *state) load(register *api.Byte, x api.Byte) {
	*register = x
	s.p = flags.Told(s.p, x)
}

// use uses a byte that is read.
func (s *state) use(x api.Byte) {
	switch s.op.Name {
	case "LDA":
		s.load(&s.a, x)
	case "LDX":
		s.load(&s.x, x)
	case "LDY":
		s.load(&s.y, x)
	case "AND":
		s.load(&s.a, taint.And(s.a, x))
	case "ORA":
		s.load(&s.a, taint.Or(s.a, x))
	case "EOR":
		s.load(&s.a, taint.Xor(s.a, x))
	case "BIT":
		s.set(flags.Z, taint.Zero(taint.And(s.a, x)))
		s.set(flags.N, flags.Get(x, flags.N))
		s.set(flags.V, flags.Get(x, flags.V))
	default:
		s.reckon(x)
	}
}

// reckon uses a byte in a sum.
func (s *state) reckon(x api.Byte) {
	compared := func(z sums.Sum) {
		s.set(flags.N, z.N)
		s.set(flags.Z, z.Z)
		s.set(flags.C, z.C)
	}
	added := func(z sums.Sum) {
		compared(z)
		s.set(flags.V, z.V)
		s.a = z.A
	}
	c, d := flags.Get(s.p, flags.C), flags.Get(s.p, flags.D)
	switch s.op.Name {
	case "ADC":
		added(sums.Add(s.a, x, c, d))
	case "SBC":
		added(sums.Sub(s.a, x, c, d))
	case "CMP":
		compared(sums.Compare(s.a, x))
	case "CPX":
		compared(sums.Compare(s.x, x))
	case "CPY":
		compared(sums.Compare(s.y, x))
	}
}

// turned is what a byte is turned into, and the flags then.
func (s *state) turned(x api.Byte) (api.Byte, api.Byte) {
	c := flags.Get(s.p, flags.C)
	var in api.Bit
	switch s.op.Name {
	case "ROL":
		in = c
		fallthrough
	case "ASL":
		x, c = taint.Left(x, in)
	case "ROR":
		in = c
		fallthrough
	case "LSR":
		x, c = taint.Right(x, in)
	case "INC":
		x = sums.Step(x, 1)
	case "DEC":
		x = sums.Step(x, -1)
	}
	return x, flags.Told(flags.Set(s.p, flags.C, c), x)
}

// stored is the register that is written.
func (s *state) stored() api.Byte {
	switch s.op.Name {
	case "STX":
		return s.x
	case "STY":
		return s.y
	}
	return s.a
}

// alone does what an opcode does without memory; one that is not of that kind does nothing here.
func (s *state) alone() {
	switch s.op.Name {
	case "ASL", "LSR", "ROL", "ROR":
		s.a, s.p = s.turned(s.a)
	case "INX":
		s.load(&s.x, sums.Step(s.x, 1))
	case "INY":
		s.load(&s.y, sums.Step(s.y, 1))
	case "DEX":
		s.load(&s.x, sums.Step(s.x, -1))
	case "DEY":
		s.load(&s.y, sums.Step(s.y, -1))
	case "TAX":
		s.load(&s.x, s.a)
	case "TAY":
		s.load(&s.y, s.a)
	case "TXA":
		s.load(&s.a, s.x)
	case "TYA":
		s.load(&s.a, s.y)
	case "TSX":
		s.load(&s.x, s.top)
	case "TXS":
		s.top = s.x
	default:
		s.settle()
	}
}

// settle lets a flag be 0, or 1.
func (s *state) settle() {
	switch s.op.Name {
	case "CLC":
		s.set(flags.C, api.Bit{})
	case "CLD":
		s.set(flags.D, api.Bit{})
	case "CLI":
		s.set(flags.I, api.Bit{})
	case "CLV":
		s.set(flags.V, api.Bit{})
	case "SEC":
		s.set(flags.C, api.Bit{V: true})
	case "SED":
		s.set(flags.D, api.Bit{V: true})
	case "SEI":
		s.set(flags.I, api.Bit{V: true})
	}
}
