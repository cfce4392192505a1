package core_test

import (
	"math"
	"testing"

	"cochineal/api"
	"cochineal/asm"
	"cochineal/bus"
	"cochineal/core"
	"cochineal/memory"
	"cochineal/opcode"
	"cochineal/ports"
	"cochineal/taint"
	"cochineal/timer"
	"cochineal/wheel"
)

// text is the bytes of instructions that begin at 512.
func text(t *testing.T, s string) []byte {
	t.Helper()
	b, line, e := asm.Assemble(s, 512)
	if e != api.OK {
		t.Fatal(s, line, e)
	}
	return b
}

// at512 is a processor, and its model, that begin at 512 with S being 255.
func at512(t *testing.T, code []byte, turn func(m *memory.Memory)) (*core.CPU, *model) {
	t.Helper()
	return both(t, plain(t, code, turn), core.Regs{S: taint.Of(255), PC: 512})
}

// nothing is done between cycles.
func nothing() {}

// runs looks whether cycles are at those addresses; below 0, if they write.
func runs(t *testing.T, c *core.CPU, want ...int) {
	t.Helper()
	for i, n := range want {
		r, rule, e := c.Cycle()
		if rule != 0 || e != api.OK || r.Addr != max(n, -n) || r.Write != (n < 0) {
			t.Fatalf("cycle %d: %v, %d, %v, not at %d", i, r, rule, e, n)
		}
	}
}

// P15.1, R1: nil is named ahead of the range.
func TestNew(t *testing.T) {
	b := plain(t, nil, nil)
	r := core.Regs{A: api.Byte{V: 1, T: 2}, X: api.Byte{V: 3, T: 4}, Y: api.Byte{V: 5, T: 6}, S: api.Byte{V: 7, T: 8}, P: api.Byte{V: 9, T: 10}}
	for _, pc := range []int{0, 1, 255, 256, 512, 32768, 49151, 65534, 65535} {
		r.PC = pc
		c, e := core.New(b, r)
		if c == nil || e != api.OK {
			t.Fatal(pc, c, e)
		}
		if rule, why := c.Stopped(); c.Regs() != r || !c.Ready() || rule != 0 || why != api.OK {
			t.Error(pc, c.Regs(), c.Ready(), rule, why)
		}
		sameBuses(t, c.Bus(), b)
		if c, e := core.New(nil, r); c != nil || e != api.ErrNil {
			t.Error(pc, c, e)
		}
	}
	for _, pc := range []int{-1, -2, -256, -65536, math.MinInt, 65536, 65537, 1 << 32, 1<<32 + 512, math.MaxInt} {
		r.PC = pc
		if c, e := core.New(b, r); c != nil || e != api.ErrRange {
			t.Error(pc, c, e)
		}
		if c, e := core.New(nil, r); c != nil || e != api.ErrNil {
			t.Error(pc, c, e)
		}
	}
}

// P15.1: its first cycle fetches at the place.
func TestNewBeginsAtThePlace(t *testing.T) {
	for _, pc := range []int{0, 255, 512, 32767, 32784, 49152, 65535} {
		c, _ := both(t, plain(t, nil, nil), core.Regs{PC: pc})
		if r, rule, e := c.Cycle(); r.Addr != pc || r.Write || rule != 0 || e != api.OK {
			t.Error(pc, r, rule, e)
		}
		if c.Regs().PC != (pc+1)%65536 || c.Ready() {
			t.Error(pc, c.Regs(), c.Ready())
		}
	}
}

// P15.1: its bus is of its own, as it was then.
func TestItsBusIsItsOwn(t *testing.T) {
	b := plain(t, text(t, "INC $10\nJMP $0200\n"), nil)
	b.Write(16, taint.Of(5))
	c, m := both(t, b, core.Regs{PC: 512})
	b.Write(16, taint.Of(99))
	b.Write(512, taint.Of(2))
	was := b.Clone()
	for range 6 {
		follow(t, c, m, nothing)
		c.Bus().Write(16, taint.Of(77))
		c.Bus().Write(512, taint.Of(2))
		c.Bus().Read(32772)
	}
	sameBuses(t, c.Bus(), m.bus)
	sameBuses(t, b, was)
	if x, _ := c.Bus().Memory().Read(16); x != taint.Of(8) {
		t.Error(x)
	}
	if c.Bus().Cycles() != 1+3*(5+3) {
		t.Error(c.Bus().Cycles())
	}
}

// P15.1: the example.
func TestTheExample(t *testing.T) {
	c, _ := at512(t, text(t, "LDA #$05\nSTA $10\n"), nil)
	for i, want := range []api.Record{{Addr: 512, Data: taint.Of(0xa9)}, {Addr: 513, Data: taint.Of(5)}, {Addr: 514, Data: taint.Of(0x85)}, {Addr: 515, Data: taint.Of(16)}, {Addr: 16, Write: true, Data: taint.Of(5)}} {
		if r, rule, e := c.Cycle(); r != want || rule != 0 || e != api.OK {
			t.Error(i, r, rule, e)
		}
		if c.Ready() != (i == 1 || i == 4) {
			t.Error(i, c.Ready())
		}
	}
}

// P15.1, P15.2: of a nil one.
func TestOfNil(t *testing.T) {
	var c *core.CPU
	c.Reset()
	c.NMI()
	if r, rule, e := c.Cycle(); r != (api.Record{}) || rule != 0 || e != api.ErrNil {
		t.Error("Cycle", r, rule, e)
	}
	if rule, e := c.Stopped(); rule != 0 || e != api.ErrNil {
		t.Error("Stopped", rule, e)
	}
	if c.Ready() || c.Regs() != (core.Regs{}) || c.Bus() != nil || c.Clone() != nil {
		t.Error(c.Ready(), c.Regs(), c.Bus(), c.Clone())
	}
	d, _ := at512(t, nil, nil)
	if core.Low(c, c) || core.Low(c, d) || core.Low(d, c) || !core.Low(d, d) {
		t.Error("Low")
	}
}

// P15.1: each opcode, from all kinds of registers and operands, with secrets and without.
func TestEachOpcode(t *testing.T) {
	r := row(1)
	places := []int{512, 509, 250, 253, 1000, 32508, 49150 + 64, 65528, 65532, 65533, 65534, 65535}
	for b, x := range opcode.All() {
		base := memory.New()
		base.Load(0, r.codes(1024))
		base.Load(32512, r.codes(256))
		base.Load(49152, r.codes(64))
		base.Load(65472, r.codes(64))
		for i := range 90 {
			m := base.Clone()
			secrets := []int{0, 0, 8}[i%3]
			regs := r.regs(secrets)
			regs.PC = places[r.next(len(places))]
			at := r.address()
			code := append([]byte{b, byte(at), byte(at >> 8)}[:opcode.Length(x.Mode)], r.code()...)
			for i, v := range code {
				m.Load((regs.PC+i)%65536, []byte{v})
			}
			for range secrets {
				at := r.next(1024)
				m.Label(at, at, r.value())
			}
			c, n := both(t, r.bus(t, m), regs)
			for range 3 {
				if follow(t, c, n, nothing) {
					break
				}
			}
			if !bus.Low(c.Bus(), n.bus) {
				t.Fatal(b, x, "buses are not the same")
			}
		}
	}
}

// P15.1, P15.2: long runs, with edges and resets between all cycles.
func TestRunsAreAsOfTheModel(t *testing.T) {
	r := row(2)
	far, stopped := 0, map[halt]int{}
	for i := range 400 {
		one := r.oneOf(0, 0, 2000, 500)
		b := r.bus(t, r.memory(one))
		regs := r.regs(one / 50)
		regs.PC = r.oneOf(r.next(32768), 49152+r.next(16384))
		c, m := both(t, b, regs)
		for range 300 {
			edge, reset := false, false
			tell := func() {
				switch r.next(150) {
				case 0:
					c.Reset()
					reset = true
				case 1, 2:
					c.NMI()
					edge = true
				}
			}
			tell()
			m.reset, m.edge = m.reset || reset, m.edge || edge
			edge, reset = false, false
			if follow(t, c, m, tell) {
				rule, e := c.Stopped()
				stopped[halt{rule, e}]++
				break
			}
			m.reset, m.edge = m.reset || reset, m.edge || edge
			far++
		}
		if i%4 == 0 {
			sameBuses(t, c.Bus(), m.bus)
		}
		if c.Bus().Cycles() != m.bus.Cycles() {
			t.Fatal(c.Bus().Cycles(), m.bus.Cycles())
		}
	}
	if far < 15000 || len(stopped) < 4 {
		t.Error("the runs are too short, or stop too little:", far, stopped)
	}
}

// P15.1: an opcode takes its least cycles, and one more for another page, and for a branch that is taken.
func TestCyclesOfOpcodes(t *testing.T) {
	for b, x := range opcode.All() {
		for _, crosses := range []bool{false, true} {
			for _, p := range []byte{0, 255} {
				operand := []byte{b, 0x10, 0x03}
				index := taint.Of(1)
				if crosses {
					index = taint.Of(0xff)
				}
				if crosses && x.Mode == opcode.Rel {
					operand[1] = 0x80
				}
				bus := plain(t, operand, func(m *memory.Memory) { m.Load(0x10, []byte{0x20, 0x03}) })
				c, _ := both(t, bus, core.Regs{X: index, Y: index, S: taint.Of(0x80), P: taint.Of(int(p)), PC: 512})
				want := opcode.Cycles(b)
				switch {
				case x.Kind == opcode.Reads && crosses && (x.Mode == opcode.AbsX || x.Mode == opcode.AbsY || x.Mode == opcode.IndY):
					want++
				case x.Mode == opcode.Rel && (p == 255) == branches[x.Name].taken:
					want++
					if crosses {
						want++
					}
				}
				n := 0
				for n == 0 || !c.Ready() {
					if _, rule, e := c.Cycle(); e != api.OK {
						t.Fatal(x, rule, e)
					}
					n++
				}
				if n != want {
					t.Error(x, crosses, p, n, want)
				}
			}
		}
	}
}

// P15.1: where sums go on at the other end.
func TestWhereAddressesWrap(t *testing.T) {
	for _, c := range []struct {
		regs core.Regs
		code []byte
		want []int
	}{
		// The first page goes on at its own begin.
		{core.Regs{X: taint.Of(2)}, []byte{0xb5, 0xff}, []int{512, 513, 255, 1}},
		{core.Regs{Y: taint.Of(255)}, []byte{0xb6, 0xff}, []int{512, 513, 255, 254}},
		{core.Regs{X: taint.Of(1)}, []byte{0xa1, 0xfe}, []int{512, 513, 254, 255, 0, 0x2211}},
		{core.Regs{Y: taint.Of(1)}, []byte{0xb1, 0xff}, []int{512, 513, 255, 0, 0x2212}},
		// A pointer's high byte is of its own page.
		{core.Regs{}, []byte{0x6c, 0xff, 0x06}, []int{512, 513, 514, 0x6ff, 0x600, 0x4433}},
		{core.Regs{}, []byte{0x6c, 0xfe, 0x06}, []int{512, 513, 514, 0x6fe, 0x6ff, 0x3300}},
		// Addresses go on at 0.
		{core.Regs{X: taint.Of(255)}, []byte{0xbd, 0x05, 0xff}, []int{512, 513, 514, 0xff04, 4, 515}},
		{core.Regs{Y: taint.Of(255)}, []byte{0x99, 0x05, 0xff}, []int{512, 513, 514, 0xff04, -4, 515}},
		{core.Regs{X: taint.Of(255)}, []byte{0xfe, 0x05, 0xff}, []int{512, 513, 514, 0xff04, 4, -4, -4, 515}},
		// So do those of the stack.
		{core.Regs{S: taint.Of(0)}, []byte{0x48, 0x08}, []int{512, 513, -0x100, 513, 514, -0x1ff, 514}},
		{core.Regs{S: taint.Of(254)}, []byte{0x60}, []int{512, 513, 0x1fe, 0x1ff, 0x100, 0, 1}},
	} {
		c.regs.PC = 512
		p, _ := both(t, plain(t, c.code, func(m *memory.Memory) {
			m.Load(0, []byte{0x22, 7})
			m.Load(255, []byte{0x11})
			m.Load(0x600, []byte{0x44})
			m.Load(0x6ff, []byte{0x33})
			m.Load(0x4433, []byte{1})
		}), c.regs)
		runs(t, p, c.want...)
	}
}

// P15.1: the place goes on at 0, and branches do so at both ends.
func TestWhereThePlaceWraps(t *testing.T) {
	c, m := both(t, plain(t, nil, func(m *memory.Memory) {
		m.Load(65534, []byte{0xea, 0xad})
		m.Load(0, []byte{0x34, 0x12})
	}), core.Regs{PC: 65534})
	runs(t, c.Clone(), 65534, 65535, 65535, 0, 1, 0x1234, 2)
	for range 2 {
		follow(t, c, m, nothing)
	}
	for _, x := range []struct {
		from int
		by   byte
		want []int
		to   int
	}{
		{0, 0xfd, []int{0, 1, 2, 0xff}, 65535},
		{65533, 0x7f, []int{65533, 65534, 65535, 0xff7e}, 126},
		{65534, 0x00, []int{65534, 65535, 0}, 0},
		{65534, 0xff, []int{65534, 65535, 0, 0x00ff}, 65535},
		{512, 0x80, []int{512, 513, 514, 0x282}, 0x182},
		{512, 0x7f, []int{512, 513, 514}, 0x281},
		{512, 0xfe, []int{512, 513, 514}, 512},
		{512, 0xfd, []int{512, 513, 514, 0x2ff}, 511},
		{0x2f0, 0x0d, []int{0x2f0, 0x2f1, 0x2f2}, 0x2ff},
		{0x2f0, 0x0e, []int{0x2f0, 0x2f1, 0x2f2, 0x200}, 0x300},
	} {
		p, _ := both(t, plain(t, nil, func(m *memory.Memory) {
			m.Load(x.from, []byte{0xd0})
			m.Load((x.from+1)%65536, []byte{x.by})
		}), core.Regs{PC: x.from})
		for i, n := range x.want {
			if p.Ready() != (i == 0) {
				t.Error(x, i)
			}
			// The place is that behind the branch, till the last cycle.
			if i > 1 && p.Regs().PC != (x.from+2)%65536 {
				t.Error(x, i, p.Regs().PC)
			}
			runs(t, p, n)
		}
		if !p.Ready() || p.Regs().PC != x.to {
			t.Error(x, p.Ready(), p.Regs())
		}
	}
}

// P15.1: what a step does is to be seen behind its cycle.
func TestRegistersBehindEachCycle(t *testing.T) {
	c, _ := at512(t, text(t, "JSR $0300\n"), func(m *memory.Memory) { m.Load(0x300, []byte{0x60}) })
	for i, want := range []core.Regs{
		{S: taint.Of(255), PC: 513}, {S: taint.Of(255), PC: 514}, {S: taint.Of(255), PC: 514},
		{S: taint.Of(254), PC: 514}, {S: taint.Of(253), PC: 514}, {S: taint.Of(253), PC: 0x300},
		{S: taint.Of(253), PC: 0x301}, {S: taint.Of(253), PC: 0x301}, {S: taint.Of(253), PC: 0x301},
		{S: taint.Of(254), PC: 0x302}, {S: taint.Of(255), PC: 514}, {S: taint.Of(255), PC: 515},
	} {
		c.Cycle()
		if c.Regs() != want {
			t.Error(i, c.Regs(), want)
		}
	}
}

// P15.1: flags on the stack, by whom they went there.
func TestFlagsOnTheStack(t *testing.T) {
	for _, p := range []api.Byte{{}, {V: 255}, {V: 0x30}, {V: 0xcf}, {V: 0x81, T: 0xc3}, {V: 0x30, T: 0x30}} {
		for _, x := range []struct {
			name string
			code byte
			brk  bool
			turn func(c *core.CPU)
			last int
		}{
			{"BRK", 0x00, true, nil, 4},
			{"PHP", 0x08, true, nil, 2},
			{"NMI", 0xea, false, (*core.CPU).NMI, 4},
		} {
			c, _ := both(t, plain(t, []byte{x.code}, nil), core.Regs{S: taint.Of(255), P: p, PC: 512})
			if x.turn != nil {
				x.turn(c)
			}
			for range x.last {
				c.Cycle()
			}
			r, _, _ := c.Cycle()
			if !r.Write || r.Data != onStack(p, x.brk) {
				t.Error(x.name, p, r)
			}
		}
		for _, code := range []byte{0x28, 0x40} {
			c, m := both(t, plain(t, []byte{code}, nil), core.Regs{S: taint.Of(0x10), PC: 512})
			b := c.Bus()
			b.Write(0x111, p)
			c, m = both(t, b, c.Regs())
			if follow(t, c, m, nothing); c.Regs().P != onStack(p, false) {
				t.Error(code, p, c.Regs())
			}
		}
	}
}

// P15.1: a reset writes nothing.
func TestReset(t *testing.T) {
	for _, s := range []int{0, 1, 2, 3, 128, 255} {
		c, m := both(t, plain(t, text(t, "INX\nINX\n"), nil), core.Regs{S: taint.Of(s), P: api.Byte{V: 8, T: 4}, PC: 512})
		c.Reset()
		c.Reset()
		m.reset = true
		was := c.Bus()
		runs(t, c.Clone(), 512, 512, 256+s, 256+(s+255)%256, 256+(s+254)%256, 65532, 65533, 0x400)
		follow(t, c, m, nothing)
		want := core.Regs{S: taint.Of(s + 253), P: taint.Of(12), PC: 0x400}
		if c.Regs() != want || !memory.Same(was.Memory(), c.Bus().Memory()) {
			t.Error(s, c.Regs())
		}
		// It was asked for once.
		runs(t, c, 0x400, 0x401)
	}
}

// P15.1: what is asked for waits for the end of what is done.
func TestWhatIsAskedForWaits(t *testing.T) {
	code := text(t, "INC $0310\nINX\n")
	for n := range 7 {
		for _, x := range []struct {
			ask  func(c *core.CPU)
			want []int
		}{
			{(*core.CPU).Reset, []int{515, 515, 0x1ff, 0x1fe, 0x1fd, 65532, 65533, 0x400}},
			{(*core.CPU).NMI, []int{515, 515, -0x1ff, -0x1fe, -0x1fd, 65530, 65531, 0x300}},
		} {
			c, _ := at512(t, code, nil)
			all := []int{512, 513, 514, 0x310, -0x310, -0x310}
			if n == 0 {
				c, _ = both(t, c.Bus(), core.Regs{S: taint.Of(255), PC: 515})
				x.ask(c)
				runs(t, c, x.want...)
				continue
			}
			runs(t, c, all[:n]...)
			x.ask(c)
			runs(t, c, all[n:]...)
			runs(t, c, x.want...)
		}
	}
}

// nmi and reset are the addresses of those sequences.
func nmi(place, s int) []int {
	return []int{place, place, -256 - s, -256 - s + 1, -256 - s + 2, 65530, 65531}
}

func reset(place, s int) []int {
	return []int{place, place, 256 + s, 256 + s - 1, 256 + s - 2, 65532, 65533}
}

// P15.1: edges are one, as long as no sequence NMI began.
func TestEdges(t *testing.T) {
	c, _ := at512(t, nil, nil)
	for range 3 {
		c.NMI()
	}
	runs(t, c, nmi(512, 255)...)
	runs(t, c, 0x300)
	for n := range 7 {
		c, _ := at512(t, nil, nil)
		c.NMI()
		want := nmi(512, 255)
		runs(t, c, want[:n+1]...)
		// The sequence began: this is another edge.
		c.NMI()
		c.NMI()
		runs(t, c, want[n+1:]...)
		runs(t, c, nmi(0x300, 252)...)
		runs(t, c, 0x300)
	}
}

// P15.1: a reset goes ahead of an edge, which is not forgotten by it, and both of the bus.
func TestOrderOfSequences(t *testing.T) {
	for _, edgeFirst := range []bool{false, true} {
		for _, secret := range []byte{0, 4} {
			rings := timer.Timer{Rings: true, Asks: true}
			p, _ := ports.New(nil, nil)
			b, _ := bus.New(plain(t, nil, nil).Memory(), rings, p, wheel.New())
			c, m := both(t, b, core.Regs{S: taint.Of(255), P: api.Byte{T: secret}, PC: 512})
			if edgeFirst {
				c.NMI()
			}
			c.Reset()
			if !edgeFirst {
				c.NMI()
			}
			m.reset, m.edge = true, true
			d := c.Clone()
			for range 4 {
				follow(t, c, m, nothing)
			}
			runs(t, d, reset(512, 255)...)
			runs(t, d, nmi(0x400, 252)...)
			// The flag I is 1 now, so the bus asks in vain, whatever it was ahead.
			runs(t, d, 0x300)
		}
	}
}

// P15.1: an edge while another sequence is done.
func TestEdgeWithinASequence(t *testing.T) {
	for n := range 7 {
		c, _ := at512(t, nil, nil)
		c.Reset()
		want := reset(512, 255)
		runs(t, c, want[:n+1]...)
		c.NMI()
		runs(t, c, want[n+1:]...)
		runs(t, c, nmi(0x400, 252)...)
		runs(t, c, 0x300)
	}
}

// P15.1: a reset within a sequence is another one.
func TestResetWithinASequence(t *testing.T) {
	for n := range 7 {
		c, _ := at512(t, nil, nil)
		c.Reset()
		want := reset(512, 255)
		runs(t, c, want[:n+1]...)
		c.Reset()
		runs(t, c, want[n+1:]...)
		runs(t, c, reset(0x400, 252)...)
		runs(t, c, 0x400)
	}
}

// asking is a bus of such bytes whose timer asks for an interrupt, until it is written to.
func asking(t *testing.T, code []byte, turn func(m *memory.Memory)) *bus.Bus {
	t.Helper()
	p, _ := ports.New(nil, nil)
	b, e := bus.New(plain(t, code, turn).Memory(), timer.Timer{Rings: true, Asks: true}, p, wheel.New())
	if e != api.OK {
		t.Fatal(e)
	}
	return b
}

// P15.1
func TestIRQ(t *testing.T) {
	// STA $8003 lets it ring no longer.
	handler := func(m *memory.Memory) { m.Load(0x500, []byte{0x8d, 0x03, 0x80, 0x40}) }
	c, m := both(t, asking(t, text(t, "SEI\nCLI\nNOP\n"), handler), core.Regs{S: taint.Of(255), P: taint.Of(4), PC: 512})
	d := c.Clone()
	runs(t, d, 512, 513, 513, 514, 514, 514, -0x1ff, -0x1fe, -0x1fd, 65534, 65535, 0x500, 0x501, 0x502, -0x8003, 0x503, 0x504, 0x1fc, 0x1fd, 0x1fe, 0x1ff, 514, 515, 515)
	for range 6 {
		follow(t, c, m, nothing)
	}
	if x, _ := c.Bus().Memory().Read(0x1fd); x != taint.Of(0x20) {
		t.Error(x)
	}
}

// P15.1: as long as it rings, it is asked for.
func TestIRQIsALevel(t *testing.T) {
	c, _ := both(t, asking(t, text(t, "NOP\n"), func(m *memory.Memory) { m.Load(0x500, []byte{0x40}) }), core.Regs{S: taint.Of(255), PC: 512})
	for range 3 {
		runs(t, c, 512, 512, -0x1ff, -0x1fe, -0x1fd, 65534, 65535, 0x500, 0x501, 0x1fc, 0x1fd, 0x1fe, 0x1ff)
	}
}

// P15.1: a secret flag I stops it only where the bus asks, and nothing is ahead of it.
func TestIRQOfASecretFlag(t *testing.T) {
	for _, i := range []api.Byte{{T: 4}, {V: 4, T: 4}, {V: 251, T: 255}} {
		c, _ := both(t, asking(t, nil, nil), core.Regs{S: taint.Of(255), P: i, PC: 512})
		d := c.Clone()
		if !c.Ready() {
			t.Error(i)
		}
		stops(t, c, halt{3, api.ErrAlarm})
		d.NMI()
		runs(t, d, nmi(512, 255)...)
		runs(t, d, 0x300)
		// What does not ask does not stop it.
		c, _ = both(t, plain(t, nil, nil), core.Regs{P: i, PC: 512})
		runs(t, c, 512, 513)
	}
	// Others that are secret do not.
	c, _ := both(t, asking(t, nil, nil), core.Regs{S: taint.Of(255), P: api.Byte{T: 251}, PC: 512})
	runs(t, c, 512, 512, -0x1ff, -0x1fe, -0x1fd, 65534, 65535, 0x500)
}

// P15.1: what is done alone is not done by the steps of a sequence.
func TestASequenceDoesNothingAlone(t *testing.T) {
	for _, ask := range []func(c *core.CPU){(*core.CPU).NMI, (*core.CPU).Reset} {
		c, m := at512(t, text(t, "INX\n"), nil)
		follow(t, c, m, nothing)
		ask(c)
		for range 7 {
			c.Cycle()
		}
		if !c.Ready() || c.Regs().X != taint.Of(1) {
			t.Error(c.Regs())
		}
	}
}
