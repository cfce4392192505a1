package core

import (
	"cochineal/api"
	"cochineal/flags"
	"cochineal/micro"
	"cochineal/opcode"
	"cochineal/sums"
	"cochineal/taint"
)

// aim is where a step reads, or writes.
func (s *state) aim(step int) pair {
	switch step {
	case micro.Index, micro.PtrLow:
		return pair{low: s.l}
	case micro.PtrHigh:
		return pair{low: sums.Step(s.l, 1)}
	case micro.Near:
		return pair{s.h, s.indexed().A}
	case micro.Get, micro.Old, micro.Back, micro.New, micro.Put, micro.FarLow:
		return pair{s.h, s.l}
	case micro.FarHigh:
		return pair{s.h, sums.Step(s.l, 1)}
	case micro.Peek, micro.Drop, micro.PushHigh, micro.PushLow, micro.PushP, micro.PushA:
		return stack(s.top)
	case micro.PullLow, micro.PullHigh, micro.PullP, micro.PullA:
		return stack(sums.Step(s.top, 1))
	case micro.Cross:
		return pair{s.place.high, s.to.low}
	case micro.VecLow:
		return pairOf(s.vector)
	case micro.VecHigh:
		return pairOf(s.vector + 1)
	}
	return s.place
}

// stack is an address of the stack.
func stack(low api.Byte) pair { return pair{taint.Of(1), low} }

// indexed is L and the index together.
func (s *state) indexed() sums.Sum {
	index := s.y
	switch s.op.Mode {
	case opcode.ZpX, opcode.AbsX, opcode.IndX:
		index = s.x
	}
	return sums.Add(s.l, index, api.Bit{}, api.Bit{})
}

// out is what a step writes.
func (s *state) out(step int) api.Byte {
	switch step {
	case micro.New:
		x, _ := s.turned(s.v)
		return x
	case micro.Put:
		return s.stored()
	case micro.PushHigh:
		return s.place.high
	case micro.PushLow:
		return s.place.low
	case micro.PushP:
		return flags.Pushed(s.p, s.op.Name == "BRK" || s.op.Name == "PHP")
	case micro.PushA:
		return s.a
	}
	return s.v
}

// done is what follows a step, by the byte that it read.
func (s *state) done(step int, x api.Byte) {
	switch step {
	case fetch:
		s.code, s.fetched = x, true
		s.place = s.place.more()
	case micro.Next:
		s.alone()
	case micro.Low:
		// An address is one of the first page, unless High is behind.
		s.l, x = x, api.Byte{}
		fallthrough
	case micro.High:
		s.h = x
		fallthrough
	case micro.Skip:
		s.place = s.place.more()
	case micro.Value:
		s.place = s.place.more()
		s.use(x)
	case micro.Index:
		s.l = s.indexed().A
	case micro.PtrLow, micro.Old, micro.FarLow:
		s.v = x
	case micro.PtrHigh:
		s.h, s.l = x, s.v
	case micro.Near:
		s.near(x)
	case micro.Get:
		s.use(x)
	case micro.New:
		_, s.p = s.turned(s.v)
	case micro.FarHigh:
		s.place = pair{x, s.v}
	case micro.VecLow:
		s.l = x
		s.set(flags.I, api.Bit{V: true})
	case micro.Jump, micro.VecHigh:
		s.place = pair{x, s.l}
	default:
		s.stacked(step, x)
		s.branched(step, x)
	}
}

// near is what follows a byte of the page of H: of the wrong one, if the sum goes beyond it.
func (s *state) near(x api.Byte) {
	sum := s.indexed()
	s.l = sum.A
	switch {
	case sum.C.V:
		s.h = sums.Step(s.h, 1)
	case s.op.Kind == opcode.Reads:
		s.used = true
		s.use(x)
	}
}

// stacked is what follows a step of the stack.
func (s *state) stacked(step int, x api.Byte) {
	switch step {
	case micro.Drop, micro.PushHigh, micro.PushLow, micro.PushP, micro.PushA:
		s.top = sums.Step(s.top, -1)
	case micro.PullLow, micro.PullHigh, micro.PullP, micro.PullA:
		s.top = sums.Step(s.top, 1)
		s.pulled(step, x)
	}
}

// pulled lets a byte of the stack be where it belongs.
func (s *state) pulled(step int, x api.Byte) {
	switch step {
	case micro.PullLow:
		s.place.low = x
	case micro.PullHigh:
		s.place.high = x
	case micro.PullP:
		s.p = flags.Pulled(x)
	case micro.PullA:
		s.load(&s.a, x)
	}
}

// branched is what follows a step of a branch.
func (s *state) branched(step int, x api.Byte) {
	switch step {
	case micro.Offset:
		s.v = x
		s.place = s.place.more()
		s.to = s.place.far(x)
	case micro.Take:
		if !s.stays() {
			break
		}
		fallthrough
	case micro.Cross:
		s.place = s.to
	}
}
