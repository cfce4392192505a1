package core_test

import (
	"testing"

	"cochineal/api"
	"cochineal/bus"
	"cochineal/core"
	"cochineal/memory"
	"cochineal/opcode"
	"cochineal/ports"
	"cochineal/taint"
	"cochineal/timer"
	"cochineal/wheel"
)

// P15.2: a step that is left away is none that is left.
func TestReady(t *testing.T) {
	for _, x := range []struct {
		code  []byte
		regs  core.Regs
		label int
		// Ready, ahead of each cycle, and behind the last one.
		want []bool
	}{
		{code: []byte{0xea}, want: []bool{true, false, true}},
		{code: []byte{0xa9, 1}, want: []bool{true, false, true}},
		{code: []byte{0xbd, 1, 3}, regs: core.Regs{X: taint.Of(254)}, want: []bool{true, false, false, false, true}},
		{code: []byte{0xbd, 1, 3}, regs: core.Regs{X: taint.Of(255)}, want: []bool{true, false, false, false, false, true}},
		{code: []byte{0xb1, 0x40}, regs: core.Regs{Y: taint.Of(255)}, want: []bool{true, false, false, false, false, true}},
		{code: []byte{0x9d, 1, 3}, want: []bool{true, false, false, false, false, true}},
		{code: []byte{0x1e, 1, 3}, want: []bool{true, false, false, false, false, false, false, true}},
		{code: []byte{0xf0, 1}, want: []bool{true, false, true}},
		{code: []byte{0xd0, 1}, want: []bool{true, false, false, true}},
		{code: []byte{0xd0, 128}, want: []bool{true, false, false, false, true}},
		// Behind how far it goes: the flag is secret, or how far is.
		{code: []byte{0xf0, 1}, regs: core.Regs{P: api.Byte{T: 2}}, want: []bool{true, false, false}},
		{code: []byte{0xd0, 1}, regs: core.Regs{P: api.Byte{T: 2}}, want: []bool{true, false, false}},
		{code: []byte{0xd0, 1}, label: 513, want: []bool{true, false, false}},
		{code: []byte{0xf0, 1}, label: 513, want: []bool{true, false, true}},
		// What was fetched is none, or secret.
		{code: []byte{2}, want: []bool{true, false}},
		{code: []byte{0xea}, label: 512, want: []bool{true, false}},
	} {
		x.regs.PC = 512
		c, _ := both(t, plain(t, x.code, func(m *memory.Memory) { m.Label(x.label, x.label, 1) }), x.regs)
		for i, want := range x.want {
			if c.Ready() != want || c.Clone().Ready() != want {
				t.Error(x.code, i, c.Ready())
			}
			// It does nothing to ask, nor to ask for something.
			c.Ready()
			if i == len(x.want)-1 {
				break
			}
			if _, rule, e := c.Cycle(); e != api.OK {
				t.Error(x.code, i, rule, e)
			}
		}
		c.NMI()
		c.Reset()
		if want := x.want[len(x.want)-1]; c.Ready() != want {
			t.Error(x.code, c.Ready())
		}
	}
}

// P15.2: of sequences each cycle but the last one leaves steps.
func TestReadyOfSequences(t *testing.T) {
	for _, ask := range []func(c *core.CPU){(*core.CPU).NMI, (*core.CPU).Reset} {
		c, _ := at512(t, nil, nil)
		ask(c)
		for i := range 8 {
			if c.Ready() != (i == 0 || i == 7) {
				t.Error(i, c.Ready())
			}
			if i < 7 {
				c.Cycle()
			}
		}
	}
}

// P15.2: clones go on as it would, between all cycles, and each of its own.
func TestClone(t *testing.T) {
	r := row(3)
	for range 12 {
		one := r.oneOf(0, 1000)
		regs := r.regs(0)
		regs.PC = r.next(32768)
		c, m := both(t, r.bus(t, r.memory(one)), regs)
		d, n := both(t, m.bus, regs)
		var told []cycle
		for stopped := false; !stopped && len(told) < 60; {
			ask := []func(c *core.CPU){func(*core.CPU) {}, (*core.CPU).NMI, (*core.CPU).Reset}[r.next(3)]
			ask(c)
			ask(d)
			_, why := n.whole()
			stopped = why != halt{} || len(n.did) == 0
			for range n.did {
				// The one that is cloned goes on otherwise.
				was := c
				c = c.Clone()
				was.Reset()
				was.NMI()
				for range 9 {
					was.Cycle()
				}
				x, rule, e := c.Cycle()
				y, other, f := d.Cycle()
				if x != y || rule != other || e != f || c.Regs() != d.Regs() || c.Ready() != d.Ready() {
					t.Fatal(x, y, rule, other, e, f, c.Regs(), d.Regs())
				}
				told = append(told, cycle{record: x})
			}
		}
		sameBuses(t, c.Bus(), d.Bus())
	}
}

// P15.2
func TestLow(t *testing.T) {
	secret := core.Regs{A: api.Byte{V: 1, T: 6}, X: api.Byte{V: 2, T: 12}, Y: api.Byte{V: 3, T: 24}, S: api.Byte{V: 4, T: 48}, P: api.Byte{V: 5, T: 96}, PC: 512}
	b := plain(t, text(t, "NOP\n"), func(m *memory.Memory) { m.Label(16, 16, 15) })
	c, _ := both(t, b, secret)
	for i := range 5 {
		for bit := range 8 {
			for _, label := range []bool{false, true} {
				r := secret
				x := []*api.Byte{&r.A, &r.X, &r.Y, &r.S, &r.P}[i]
				want := x.T>>bit&1 == 1 && !label
				if label {
					x.T ^= 1 << bit
				} else {
					x.V ^= 1 << bit
				}
				d, _ := both(t, b, r)
				if core.Low(c, d) != want || core.Low(d, c) != want || !core.Low(d, d) {
					t.Error(i, bit, label, core.Low(c, d))
				}
			}
		}
	}
	for _, pc := range []int{513, 511, 0, 768, 256, 528, 33280} {
		r := secret
		r.PC = pc
		if d, _ := both(t, b, r); core.Low(c, d) || core.Low(d, c) {
			t.Error(pc)
		}
	}
}

// P15.2
func TestLowOfBuses(t *testing.T) {
	b := plain(t, nil, func(m *memory.Memory) { m.Label(16, 16, 15) })
	regs := core.Regs{PC: 512}
	c, _ := both(t, b, regs)
	for _, x := range []struct {
		at   int
		b    api.Byte
		want bool
	}{
		{16, api.Byte{V: 9, T: 15}, true},
		{16, api.Byte{V: 16, T: 15}, false},
		{16, api.Byte{T: 7}, false},
		{17, api.Byte{V: 1}, false},
		{32769, api.Byte{V: 1}, false},
		{32774, api.Byte{V: 1}, false},
		{32777, api.Byte{V: 1}, false},
	} {
		other, same := b.Clone(), b.Clone()
		other.Write(x.at, x.b)
		same.Write(49152, api.Byte{})
		c, _ = both(t, same, regs)
		d, _ := both(t, other, regs)
		if core.Low(c, d) != x.want || core.Low(d, c) != x.want {
			t.Error(x)
		}
	}
	// One did a cycle more.
	d, _ := both(t, b, regs)
	if core.Low(c, d) || core.Low(d, c) {
		t.Error("Cycles")
	}
}

// P15.2: what is asked for, and what was done, tells.
func TestLowOfWhatIsAskedFor(t *testing.T) {
	c, m := at512(t, text(t, "NOP\nNOP\n"), nil)
	for _, ask := range []func(c *core.CPU){(*core.CPU).NMI, (*core.CPU).Reset} {
		d := c.Clone()
		ask(d)
		if core.Low(c, d) || core.Low(d, c) || !core.Low(d, d.Clone()) {
			t.Error("asked for of one")
		}
		e := c.Clone()
		ask(e)
		ask(e)
		if !core.Low(e, d) || !core.Low(d, e) {
			t.Error("asked for of both")
		}
		for range 7 {
			d.Cycle()
			e.Cycle()
		}
		if !core.Low(d, e) || core.Low(c, d) {
			t.Error("not asked for any more")
		}
	}
	d := c.Clone()
	d.NMI()
	e := c.Clone()
	e.Reset()
	if core.Low(d, e) {
		t.Error("one of each")
	}
	// One that has steps left is Low to none.
	d = c.Clone()
	d.Cycle()
	if core.Low(c, d) || core.Low(d, c) || core.Low(d, d) || core.Low(d, d.Clone()) {
		t.Error("not ready")
	}
	follow(t, c, m, nothing)
	d.Cycle()
	if !core.Low(c, d) {
		t.Error("ready again")
	}
}

// P15.2: places may be secret.
func TestLowOfPlaces(t *testing.T) {
	// Both have one memory, and jump by pointers of their own.
	places := func(low, high api.Byte) (*core.CPU, *core.CPU) {
		b := plain(t, text(t, "JMP ($0020)\nJMP ($0022)\n"), nil)
		for i, x := range []api.Byte{{V: 5, T: 1}, {V: 3, T: 2}, low, high} {
			b.Write(0x20+i, x)
		}
		c, m := both(t, b, core.Regs{PC: 512})
		d, n := both(t, b, core.Regs{PC: 515})
		follow(t, c, m, nothing)
		follow(t, d, n, nothing)
		return c, d
	}
	for _, x := range []struct {
		low, high api.Byte
		want      bool
	}{
		{api.Byte{V: 5, T: 1}, api.Byte{V: 3, T: 2}, true},
		{api.Byte{V: 4, T: 1}, api.Byte{V: 3, T: 2}, true},
		{api.Byte{V: 5, T: 1}, api.Byte{V: 1, T: 2}, true},
		{api.Byte{V: 7, T: 1}, api.Byte{V: 3, T: 2}, false},
		{api.Byte{V: 5, T: 3}, api.Byte{V: 3, T: 2}, false},
		{api.Byte{V: 5, T: 1}, api.Byte{V: 2, T: 2}, false},
		{api.Byte{V: 5, T: 1}, api.Byte{V: 3}, false},
		{api.Byte{V: 5}, api.Byte{V: 3, T: 2}, false},
	} {
		c, d := places(x.low, x.high)
		if core.Low(c, d) != x.want || core.Low(d, c) != x.want {
			t.Error(x)
		}
	}
}

// twins are a bus and registers, and the same with other secret bits.
func (r *row) twins(t *testing.T) (b, other *bus.Bus, regs, others core.Regs) {
	t.Helper()
	one := r.oneOf(200, 1000, 5000)
	m := r.memory(one)
	// Here are secrets for all.
	m.Label(64, 95, r.secret(1))
	m.Label(0x300, 0x3ff, r.secret(1))
	n := memory.New()
	for at := range api.Size {
		if x, e := m.Read(at); e == api.OK {
			n.Load(at, []byte{x.V ^ x.T&byte(r.next(256))})
			n.Label(at, at, x.T)
		}
	}
	if !memory.Same(m, n) {
		t.Fatal("memories are not the same but for secrets")
	}
	public := []byte{1, r.value(), r.value()}
	p, _ := ports.New(public, []byte{r.value(), r.value(), r.value()})
	q, _ := ports.New(public, []byte{r.value(), r.value(), r.value()})
	clock := r.timer()
	b, _ = bus.New(m, clock, p, wheel.New())
	other, _ = bus.New(n, clock, q, wheel.New())
	regs = r.regs(6)
	regs.S.T, regs.P.T = 0, regs.P.T&^byte(r.oneOf(4, 255))
	regs.PC = r.next(32768)
	others = regs
	for _, x := range []*api.Byte{&others.A, &others.X, &others.Y, &others.P} {
		x.V ^= x.T & byte(r.next(256))
	}
	return b, other, regs, others
}

// P15.3: of two that are Low, as long as the first one does not stop, and nothing is declassified.
func TestSecretsDoNotTell(t *testing.T) {
	r := row(5)
	cycles, apart, secret := 0, 0, 0
	for range 300 {
		b, other, regs, others := r.twins(t)
		c, _ := both(t, b, regs)
		d, _ := both(t, other, others)
		if !core.Low(c, d) {
			t.Fatal("not Low")
		}
		for range 400 {
			if ask := r.next(100); ask < 2 {
				[]func(c *core.CPU){(*core.CPU).NMI, (*core.CPU).Reset}[ask](c)
				[]func(c *core.CPU){(*core.CPU).NMI, (*core.CPU).Reset}[ask](d)
			}
			x, _, e := c.Cycle()
			if e != api.OK || x.Write && x.Addr == 32776 {
				break
			}
			y, rule, f := d.Cycle()
			if f != api.OK || x.Addr != y.Addr || x.Write != y.Write || !taint.Same(x.Data, y.Data) {
				t.Fatal("told apart:", x, y, rule, f)
			}
			if c.Ready() != d.Ready() || c.Ready() && !core.Low(c, d) {
				t.Fatal("not Low again:", c.Regs(), d.Regs())
			}
			cycles++
			if x.Data.T > 0 {
				secret++
			}
			if x != y {
				apart++
			}
		}
	}
	if cycles < 15000 || secret < 500 || apart < 300 {
		t.Error("too little was done:", cycles, secret, apart)
	}
}

// erased are registers without secrets.
func erased(r core.Regs) core.Regs {
	for _, x := range []*api.Byte{&r.A, &r.X, &r.Y, &r.S, &r.P} {
		*x = taint.Erase(*x)
	}
	return r
}

// P15.3: with fewer labels it stops no sooner.
func TestFewerLabels(t *testing.T) {
	r := row(6)
	cycles, later := 0, 0
	for range 200 {
		b, _, regs, _ := r.twins(t)
		m := b.Memory()
		fewer := regs
		for _, x := range []*api.Byte{&fewer.A, &fewer.X, &fewer.Y, &fewer.P} {
			x.T &= byte(r.next(256))
		}
		all := r.next(2) == 0
		for at, x := range b.Memory().Secret() {
			if all {
				x.T = 0
			}
			m.Label(at, at, x.T&byte(r.next(256)))
		}
		without, _ := bus.New(m, b.Timer(), b.Ports(), b.Wheel())
		c, _ := both(t, b, regs)
		d, _ := both(t, without, fewer)
		for range 400 {
			x, rule, e := c.Cycle()
			y, _, f := d.Cycle()
			if e == api.ErrAlarm && f == api.OK {
				later++
			}
			if e != api.OK {
				break
			}
			if f != api.OK || x.Addr != y.Addr || x.Write != y.Write || x.Data.V != y.Data.V || y.Data.T&^x.Data.T != 0 {
				t.Fatal(x, y, rule, f)
			}
			cycles++
			if erased(c.Regs()) != erased(d.Regs()) {
				t.Fatal("other values:", c.Regs(), d.Regs())
			}
		}
	}
	if cycles < 8000 || later < 20 {
		t.Error("too little was done:", cycles, later)
	}
}

// P15.3: secrets may be reckoned with, by each opcode.
func TestSecretsMayBeUsed(t *testing.T) {
	for b, x := range opcode.All() {
		if x.Kind == opcode.Jumps {
			continue
		}
		code := []byte{b, 0x40, 0x03}
		with := func(v byte) *core.CPU {
			m := memory.New()
			m.Load(512, code)
			m.Load(0x40, []byte{0x40, 0x03})
			m.Load(0x340, []byte{v})
			m.Label(0x340, 0x340, 0x35)
			if opcode.Length(x.Mode) == 2 && x.Mode != opcode.IndX && x.Mode != opcode.IndY {
				m.Label(0x40, 0x40, 0x35)
			}
			p, _ := ports.New(nil, nil)
			s, _ := bus.New(m, timer.Timer{}, p, wheel.New())
			secret := api.Byte{V: v, T: 0x35}
			regs := core.Regs{A: secret, S: taint.Of(255), P: api.Byte{V: v & 1, T: 1}, PC: 512}
			// What is no index may be secret.
			if x.Mode == opcode.Imp {
				regs.X, regs.Y = secret, secret
			}
			c, _ := both(t, s, regs)
			return c
		}
		c, d := with(0), with(0x35)
		if !core.Low(c, d) {
			t.Fatal(x, "not Low")
		}
		for range opcode.Cycles(b) {
			x, rule, e := c.Cycle()
			y, other, f := d.Cycle()
			if e != api.OK || f != api.OK || x.Addr != y.Addr || x.Write != y.Write || !taint.Same(x.Data, y.Data) {
				t.Fatal(x, y, rule, other, e, f)
			}
		}
		if !core.Low(c, d) {
			t.Error(x, c.Regs(), d.Regs())
		}
	}
}
