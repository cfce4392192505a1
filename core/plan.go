package core

import (
	"cochineal/api"
	"cochineal/bus"
	"cochineal/flags"
	"cochineal/micro"
	"cochineal/opcode"
)

// Where vectors stand.
const (
	nmiAt   = 65530
	resetAt = 65532
	irqAt   = 65534
)

// Steps beside those of micro.
const (
	fetch = -1 - iota // an opcode is fetched
	none              // no step is left
)

// state is what a processor is between two cycles, but for its bus.
type state struct {
	a, x, y, p api.Byte
	top        api.Byte // S: where the stack goes on
	place      pair

	l, h, v api.Byte // what steps keep for those behind them
	to      pair     // where a branch goes
	used    bool     // the byte was used ahead of Get

	code    api.Byte // the byte that was fetched last
	fetched bool     // that was in the last cycle

	op     opcode.Op // whose steps are done; of a sequence none
	steps  []int     // those that are left
	vector int

	reset bool // one is asked for
	edge  bool // there was one since the last sequence NMI began
}

// bytes are those that are to be seen where no step is left.
func (s *state) bytes() []api.Byte {
	return []api.Byte{s.a, s.x, s.y, s.top, s.p, s.place.high, s.place.low}
}

// cycle plans a cycle, and does it.
func (s *state) cycle(b *bus.Bus) (api.Record, int, api.Errno) {
	step, rule, e := s.plan(b.IRQ())
	if e != api.OK {
		return api.Record{}, rule, e
	}
	at := s.aim(step)
	if at.isSecret() {
		return api.Record{}, api.RuleAddr, api.ErrAlarm
	}
	r := api.Record{Addr: at.at(), Write: micro.Writes(step)}
	if r.Write {
		r.Data = s.out(step)
		rule, e = b.Write(r.Addr, r.Data)
	} else {
		r.Data, e = b.Read(r.Addr)
	}
	if e != api.OK {
		return api.Record{}, rule, e
	}
	s.done(step, r.Data)
	return r, 0, api.OK
}

// plan is the step that the next cycle is, or by which rule, and error, it stops.
func (s *state) plan(asks bool) (int, int, api.Errno) {
	if rule, e := s.decode(); e != api.OK {
		return none, rule, e
	}
	step := s.next()
	switch step {
	case micro.Take:
		rule, e := s.mayBranch()
		return step, rule, e
	case none:
		return s.begin(asks)
	}
	return step, 0, api.OK
}

// decode lets those steps be next that the opcode has, if the last cycle fetched one.
func (s *state) decode() (int, api.Errno) {
	if !s.fetched {
		return 0, api.OK
	}
	if s.code.T != 0 {
		return api.RuleAddr, api.ErrAlarm
	}
	op, e := opcode.Of(s.code.V)
	if e != api.OK {
		return 0, e
	}
	s.fetched, s.used = false, false
	s.op, s.vector = op, irqAt
	s.steps, e = micro.Program(s.code.V)
	return 0, e
}

// next is the next step that is not left away.
func (s *state) next() int {
again:
	if len(s.steps) == 0 {
		return none
	}
	step := s.steps[0]
	s.steps = s.steps[1:]
	if s.isLeft(step) {
		goto again
	}
	return step
}

// isLeft tells whether a step is left away.
func (s *state) isLeft(step int) bool {
	if !micro.May(step) {
		return false
	}
	if step == micro.Get {
		return s.used
	}
	// A secret flag leaves no step away: the cycle of Take stops by it.
	flag, taken := s.branch()
	return !flag.T && flag.V != taken || step == micro.Cross && s.stays()
}

// stays tells whether a branch goes to no other page.
func (s *state) stays() bool { return s.to.high == s.place.high }

// mayBranch tells by which rule, and error, a branch stops that is taken, or may be.
func (s *state) mayBranch() (int, api.Errno) {
	flag, _ := s.branch()
	switch {
	case flag.T:
		return api.RuleBranch, api.ErrAlarm
	case s.v.T != 0:
		return api.RuleAddr, api.ErrAlarm
	}
	return 0, api.OK
}

// branch is the flag by which a branch goes, and what it is if the branch is taken.
func (s *state) branch() (api.Bit, bool) {
	switch s.op.Name {
	case "BPL":
		return flags.Get(s.p, flags.N), false
	case "BMI":
		return flags.Get(s.p, flags.N), true
	case "BVC":
		return flags.Get(s.p, flags.V), false
	case "BVS":
		return flags.Get(s.p, flags.V), true
	case "BCC":
		return flags.Get(s.p, flags.C), false
	case "BCS":
		return flags.Get(s.p, flags.C), true
	case "BNE":
		return flags.Get(s.p, flags.Z), false
	}
	return flags.Get(s.p, flags.Z), true
}

// begin is the first step of a sequence, or an opcode is fetched.
func (s *state) begin(asks bool) (int, int, api.Errno) {
	off := flags.Get(s.p, flags.I)
	switch {
	case s.reset:
		s.reset = false
		return s.sequence(micro.Reset, resetAt)
	case s.edge:
		s.edge = false
		return s.sequence(micro.NMI, nmiAt)
	case asks && off.T:
		return none, api.RuleIRQ, api.ErrAlarm
	case asks && !off.V:
		return s.sequence(micro.IRQ, irqAt)
	}
	return fetch, 0, api.OK
}

// sequence is the first step of one; the others are next.
func (s *state) sequence(kind, vector int) (int, int, api.Errno) {
	l, e := micro.Sequence(kind)
	s.op, s.steps, s.vector = opcode.Op{}, l, vector
	return s.next(), 0, e
}
