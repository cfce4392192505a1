package core_test

import (
	"testing"

	"cochineal/api"
	"cochineal/bus"
	"cochineal/core"
	"cochineal/memory"
	"cochineal/opcode"
	"cochineal/ports"
	"cochineal/taint"
	"cochineal/timer"
	"cochineal/wheel"
)

// P15.1: what is no opcode is fetched, and then it stops.
func TestWhatIsNoOpcode(t *testing.T) {
	n := 0
	for b := range 256 {
		if _, e := opcode.Of(byte(b)); e == api.OK {
			continue
		}
		n++
		c, m := at512(t, []byte{0xea, byte(b)}, nil)
		follow(t, c, m, nothing)
		runs(t, c, 513)
		if c.Ready() {
			t.Error(b)
		}
		// Nothing that is asked for comes ahead of it.
		c.Reset()
		c.NMI()
		stops(t, c, halt{0, api.ErrOpcode})
		if c.Regs().PC != 514 {
			t.Error(b, c.Regs())
		}
	}
	if n != 105 {
		t.Error(n)
	}
}

// P15.1, R1: of a secret opcode the rule is named ahead of what is none.
func TestSecretOpcode(t *testing.T) {
	for b := range 256 {
		for i := range 8 {
			c, _ := at512(t, []byte{byte(b)}, func(m *memory.Memory) { m.Label(512, 512, 1<<i) })
			runs(t, c, 512)
			stops(t, c, halt{1, api.ErrAlarm})
			if c.Regs().PC != 513 {
				t.Error(b, i, c.Regs())
			}
		}
	}
}

// ends is how many cycles are done ahead of a stop, and for what it stops.
type ends struct {
	code  string
	regs  core.Regs
	done  int
	why   halt
	turns func(m *memory.Memory)
}

// stopping are programs that stop; $20 and $21 are secret, $30 and $31 point to $0300.
var stopping = []ends{
	// RuleAddr: indices, pointers, and what is jumped to.
	{"LDA $10,X\n", core.Regs{X: api.Byte{T: 1}}, 3, halt{1, api.ErrAlarm}, nil},
	{"LDX $10,Y\n", core.Regs{Y: api.Byte{T: 128}}, 3, halt{1, api.ErrAlarm}, nil},
	{"LDA $0300,X\n", core.Regs{X: api.Byte{T: 128}}, 3, halt{1, api.ErrAlarm}, nil},
	{"STA $0300,Y\n", core.Regs{Y: api.Byte{T: 2}}, 3, halt{1, api.ErrAlarm}, nil},
	{"INC $0300,X\n", core.Regs{X: api.Byte{T: 4}}, 3, halt{1, api.ErrAlarm}, nil},
	{"LDA ($30,X)\n", core.Regs{X: api.Byte{T: 8}}, 3, halt{1, api.ErrAlarm}, nil},
	{"LDA ($30),Y\n", core.Regs{Y: api.Byte{T: 16}}, 4, halt{1, api.ErrAlarm}, nil},
	{"LDA ($20,X)\n", core.Regs{}, 5, halt{1, api.ErrAlarm}, nil},
	{"STA ($20),Y\n", core.Regs{}, 4, halt{1, api.ErrAlarm}, nil},
	{"JMP ($0020)\n", core.Regs{}, 5, halt{1, api.ErrAlarm}, nil},
	{"JMP ($0021)\n", core.Regs{}, 5, halt{1, api.ErrAlarm}, nil},
	{"JMP ($001F)\n", core.Regs{}, 5, halt{1, api.ErrAlarm}, nil},
	// Operands that are secret themselves.
	{"LDA $10\n", core.Regs{}, 2, halt{1, api.ErrAlarm}, secretAt(513)},
	{"LDA $0310\n", core.Regs{}, 3, halt{1, api.ErrAlarm}, secretAt(513)},
	{"LDA $0310\n", core.Regs{}, 3, halt{1, api.ErrAlarm}, secretAt(514)},
	{"LDA $10,X\n", core.Regs{}, 2, halt{1, api.ErrAlarm}, secretAt(513)},
	{"LDA ($30),Y\n", core.Regs{}, 2, halt{1, api.ErrAlarm}, secretAt(513)},
	{"JMP $0310\n", core.Regs{}, 3, halt{1, api.ErrAlarm}, secretAt(513)},
	{"JMP $0310\n", core.Regs{}, 3, halt{1, api.ErrAlarm}, secretAt(514)},
	{"JMP ($0310)\n", core.Regs{}, 3, halt{1, api.ErrAlarm}, secretAt(514)},
	{"JSR $0310\n", core.Regs{}, 6, halt{1, api.ErrAlarm}, secretAt(514)},
	// The stack.
	{"PHA\n", core.Regs{S: api.Byte{T: 1}}, 2, halt{1, api.ErrAlarm}, nil},
	{"PLA\n", core.Regs{S: api.Byte{T: 64}}, 2, halt{1, api.ErrAlarm}, nil},
	{"JSR $0300\n", core.Regs{S: api.Byte{T: 2}}, 2, halt{1, api.ErrAlarm}, nil},
	{"BRK\n", core.Regs{S: api.Byte{T: 2}}, 2, halt{1, api.ErrAlarm}, nil},
	{"RTS\n", core.Regs{}, 5, halt{1, api.ErrAlarm}, secretAt(0x101)},
	{"RTS\n", core.Regs{}, 5, halt{1, api.ErrAlarm}, secretAt(0x102)},
	{"RTI\n", core.Regs{}, 6, halt{1, api.ErrAlarm}, secretAt(0x102)},
	{"RTI\n", core.Regs{}, 6, halt{1, api.ErrAlarm}, secretAt(0x103)},
	{"BRK\n", core.Regs{}, 7, halt{1, api.ErrAlarm}, secretAt(65534)},
	{"BRK\n", core.Regs{}, 7, halt{1, api.ErrAlarm}, secretAt(65535)},
	// How far a branch goes: of no matter, if it is not taken.
	{"BNE $0210\n", core.Regs{}, 2, halt{1, api.ErrAlarm}, secretAt(513)},
	{"BEQ $0210\nLDA $10,X\n", core.Regs{X: api.Byte{T: 1}}, 5, halt{1, api.ErrAlarm}, secretAt(513)},
	// RuleBranch is named ahead of RuleAddr.
	{"BNE $0210\n", core.Regs{P: api.Byte{T: 2}}, 2, halt{2, api.ErrAlarm}, secretAt(513)},
	{"BEQ $0210\n", core.Regs{P: api.Byte{T: 2}}, 2, halt{2, api.ErrAlarm}, secretAt(513)},
	// RuleSink.
	{"LDA $20\nSTA $8006\n", core.Regs{}, 6, halt{4, api.ErrAlarm}, nil},
	{"STX $8000\n", core.Regs{X: api.Byte{T: 1}}, 3, halt{4, api.ErrAlarm}, nil},
	{"STY $8009\n", core.Regs{Y: api.Byte{T: 1}}, 3, halt{4, api.ErrAlarm}, nil},
	{"STA $800F\n", core.Regs{A: api.Byte{T: 1}}, 3, halt{4, api.ErrAlarm}, nil},
	{"STA $7F07,X\n", core.Regs{A: api.Byte{T: 1}, X: taint.Of(255)}, 4, halt{4, api.ErrAlarm}, nil},
	{"INC $8005\n", core.Regs{}, 4, halt{4, api.ErrAlarm}, nil},
	// What is turned is a secret, but what was there is not.
	{"ROL $8006\n", core.Regs{P: api.Byte{V: 1, T: 1}}, 5, halt{4, api.ErrAlarm}, nil},
	{"ROR $800D\n", core.Regs{P: api.Byte{T: 1}}, 5, halt{4, api.ErrAlarm}, nil},
}

// secretAt labels one address.
func secretAt(at int) func(m *memory.Memory) {
	return func(m *memory.Memory) { m.Label(at, at, 1) }
}

// begin is the processor of such a program, and its model.
func (x ends) begin(t *testing.T) (*core.CPU, *model) {
	t.Helper()
	x.regs.PC = 512
	return both(t, plain(t, text(t, x.code), func(m *memory.Memory) {
		m.Label(0x20, 0x21, 129)
		m.Load(0x30, []byte{0, 3})
		if x.turns != nil {
			x.turns(m)
		}
	}), x.regs)
}

// P15.1: and what was not done has turned nothing.
func TestWhatStops(t *testing.T) {
	for i, x := range stopping {
		c, m := x.begin(t)
		d := c.Clone()
		for range x.done {
			if r, rule, e := d.Cycle(); e != api.OK {
				t.Fatal(i, x.code, r, rule, e)
			}
		}
		was := d.Bus()
		stops(t, d, x.why)
		sameBuses(t, d.Bus(), was)
		for !follow(t, c, m, nothing) {
		}
		if rule, e := c.Stopped(); rule != x.why.rule || e != x.why.e || c.Regs() != d.Regs() {
			t.Error(i, x.code, rule, e, c.Regs(), d.Regs())
		}
	}
}

// P15.1: each branch stops by the flag that it goes by alone, whatever it is.
func TestSecretFlagsOfBranches(t *testing.T) {
	for b, x := range opcode.All() {
		if x.Mode != opcode.Rel {
			continue
		}
		for bit := range 8 {
			for _, v := range []byte{0, 255} {
				p := api.Byte{V: v, T: 1 << bit}
				c, m := both(t, plain(t, []byte{b, 5}, nil), core.Regs{P: p, PC: 512})
				runs(t, c.Clone(), 512, 513)
				stopped := follow(t, c, m, nothing)
				if own := bit == branches[x.Name].flag; stopped != own {
					t.Error(x, p, stopped)
				}
			}
		}
	}
}

// P15.1: the error of the bus, that breaks no rule.
func TestWhatIsFull(t *testing.T) {
	for _, x := range []struct {
		code string
		// How many cycles a round has, how many bytes go out in it, and which of its cycles is too much.
		round, goes, last int
	}{
		{"STA $8006\nJMP $0200\n", 7, 1, 3},
		{"STA $8007\nJMP $0200\n", 7, 1, 3},
		{"STA $8008\nJMP $0200\n", 7, 1, 3},
		{"INC $8006\nJMP $0200\n", 9, 2, 4},
	} {
		c, _ := at512(t, text(t, x.code), nil)
		var e api.Errno
		n := 0
		for e == api.OK {
			if _, _, e = c.Cycle(); e == api.OK {
				n++
			}
		}
		if want := 4096/x.goes*x.round + x.last; n != want {
			t.Error(x.code, n, want)
		}
		stops(t, c, halt{0, api.ErrFull})
	}
}

// P15.1: where the last byte that goes out is that ahead of what is turned.
func TestFullBehindBack(t *testing.T) {
	p, _ := ports.New(nil, nil)
	for range 4095 {
		p.Write(ports.PublicOut, taint.Of(127), 0)
	}
	b, _ := bus.New(plain(t, text(t, "INC $8006\n"), nil).Memory(), timer.Timer{}, p, wheel.New())
	c, m := both(t, b, core.Regs{P: taint.Of(3), PC: 512})
	runs(t, c.Clone(), 512, 513, 514, 0x8006, -0x8006)
	if !follow(t, c, m, nothing) || c.Regs().P != taint.Of(3) {
		t.Error(c.Regs())
	}
	if out := c.Bus().Ports().Out(); len(out) != 4096 || out[4095] != 127 {
		t.Error(len(out))
	}
}

// P15.1: a place that is secret stops what begins there, whatever it is.
func TestSecretPlace(t *testing.T) {
	for _, ask := range []func(c *core.CPU){func(*core.CPU) {}, (*core.CPU).NMI, (*core.CPU).Reset} {
		c, m := at512(t, text(t, "JMP ($0020)\n"), func(m *memory.Memory) { m.Label(0x20, 0x20, 1) })
		follow(t, c, m, nothing)
		ask(c)
		if !c.Ready() {
			t.Error("a stop that is to come is no step")
		}
		stops(t, c, halt{1, api.ErrAlarm})
	}
}

// P15.2: a processor that stopped stays so in its clones.
func TestClonesOfWhatStopped(t *testing.T) {
	for i, x := range stopping {
		c, _ := x.begin(t)
		for range x.done + 1 {
			c.Cycle()
		}
		d := c.Clone()
		if d == c || d.Regs() != c.Regs() || core.Low(c, d) || core.Low(c, c) {
			t.Error(i, x.code)
		}
		rule, e := c.Stopped()
		stops(t, d, halt{rule, e})
	}
}
