package core_test

import (
	"slices"
	"testing"

	"cochineal/api"
	"cochineal/bus"
	"cochineal/core"
	"cochineal/memory"
	"cochineal/opcode"
	"cochineal/ports"
	"cochineal/sums"
	"cochineal/taint"
	"cochineal/timer"
	"cochineal/wheel"
)

// Flags by their bits.
const (
	bitC = 0
	bitZ = 1
	bitI = 2
	bitD = 3
	bitV = 6
	bitN = 7
)

// halt is why a processor stops.
type halt struct {
	rule int
	e    api.Errno
}

// cycle is what is done in one, and the registers behind it.
type cycle struct {
	record api.Record
	regs   core.Regs
}

// model is a processor by the chapter's words, written otherwise: it does a whole instruction, or interrupt, at once.
type model struct {
	a, x, y, s, p api.Byte
	high, low     api.Byte
	bus           *bus.Bus
	reset, edge   bool
	did           []cycle
}

// modelOf is a model as New makes a processor.
func modelOf(b *bus.Bus, r core.Regs) *model {
	return &model{a: r.A, x: r.X, y: r.Y, s: r.S, p: r.P, high: taint.Of(r.PC / 256), low: taint.Of(r.PC % 256), bus: b.Clone()}
}

func (m *model) regs() core.Regs {
	return core.Regs{A: m.a, X: m.x, Y: m.y, S: m.s, P: m.p, PC: int(m.high.V)*256 + int(m.low.V)}
}

// whole does what begins next: its cycles, and why it stops, if it does.
func (m *model) whole() (did []cycle, why halt) {
	m.did = nil
	defer func() {
		if r := recover(); r != nil {
			why = r.(halt)
		}
		m.seal()
		did = m.did
	}()
	m.begin()
	return nil, halt{}
}

// seal tells the registers behind the last cycle.
func (m *model) seal() {
	if n := len(m.did); n > 0 {
		m.did[n-1].regs = m.regs()
	}
}

// reach is an address that is not secret.
func (m *model) reach(high, low api.Byte) int {
	m.seal()
	if high.T > 0 || low.T > 0 {
		panic(halt{1, api.ErrAlarm})
	}
	return int(high.V)*256 + int(low.V)
}

func (m *model) read(high, low api.Byte) api.Byte {
	at := m.reach(high, low)
	x, e := m.bus.Read(at)
	if e != api.OK {
		panic(halt{0, e})
	}
	m.did = append(m.did, cycle{record: api.Record{Addr: at, Data: x}})
	return x
}

func (m *model) write(high, low, x api.Byte) {
	at := m.reach(high, low)
	if rule, e := m.bus.Write(at, x); e != api.OK {
		panic(halt{rule, e})
	}
	m.did = append(m.did, cycle{record: api.Record{Addr: at, Write: true, Data: x}})
}

// look reads at the place, and next goes on behind it.
func (m *model) look() api.Byte { return m.read(m.high, m.low) }

func (m *model) next() api.Byte {
	x := m.look()
	m.low = up(m.low)
	if m.low.V == 0 {
		m.high = up(m.high)
	}
	return x
}

func (m *model) push(x api.Byte) {
	m.write(taint.Of(1), m.s, x)
	m.s = down(m.s)
}

func (m *model) pull() api.Byte {
	x := m.read(taint.Of(1), up(m.s))
	m.s = up(m.s)
	return x
}

func (m *model) peek() { m.read(taint.Of(1), m.s) }

func up(a api.Byte) api.Byte   { return sums.Step(a, 1) }
func down(a api.Byte) api.Byte { return sums.Step(a, -1) }

func (m *model) flag(i int) api.Bit       { return taint.Bit(m.p, i) }
func (m *model) setFlag(i int, b api.Bit) { m.p = taint.Put(m.p, i, b) }

// tell tells N and Z by a byte, and is that byte.
func (m *model) tell(x api.Byte) api.Byte {
	m.setFlag(bitN, taint.Bit(x, 7))
	m.setFlag(bitZ, taint.Zero(x))
	return x
}

// begin does what begins next.
func (m *model) begin() {
	off := m.flag(bitI)
	switch {
	case m.reset:
		m.reset = false
		m.look()
		m.look()
		for range 3 {
			m.peek()
			m.s = down(m.s)
		}
		m.vector(65532)
	case m.edge:
		m.edge = false
		m.look()
		m.look()
		m.interrupt(false, 65530)
	case m.bus.IRQ() && off.T:
		panic(halt{3, api.ErrAlarm})
	case m.bus.IRQ() && !off.V:
		m.look()
		m.look()
		m.interrupt(false, 65534)
	default:
		m.opcode()
	}
}

// onStack is what of the flags goes on the stack.
func onStack(p api.Byte, brk bool) api.Byte {
	return taint.Put(taint.Put(p, 5, api.Bit{V: true}), 4, api.Bit{V: brk})
}

func (m *model) interrupt(brk bool, at int) {
	m.push(m.high)
	m.push(m.low)
	m.push(onStack(m.p, brk))
	m.vector(at)
}

func (m *model) vector(at int) {
	l := m.read(taint.Of(at/256), taint.Of(at))
	m.setFlag(bitI, api.Bit{V: true})
	h := m.read(taint.Of(at/256), taint.Of(at+1))
	m.high, m.low = h, l
}

func (m *model) opcode() {
	code := m.next()
	if code.T > 0 {
		panic(halt{1, api.ErrAlarm})
	}
	x, e := opcode.Of(code.V)
	if e != api.OK {
		panic(halt{0, api.ErrOpcode})
	}
	if use, is := users[x.Name]; is {
		m.reads(x.Mode, use)
		return
	}
	if stored, is := stores[x.Name]; is {
		h, l, _ := m.operand(x.Mode, false)
		m.write(h, l, stored(m))
		return
	}
	if turn, is := turners[x.Name]; is && x.Mode != opcode.Acc {
		m.turns(x.Mode, turn)
		return
	}
	if x.Mode == opcode.Rel {
		m.branch(x.Name)
		return
	}
	m.implied(x)
}

// index is that of a mode.
func (m *model) index(mode int) api.Byte {
	if mode == opcode.ZpX || mode == opcode.AbsX || mode == opcode.IndX {
		return m.x
	}
	return m.y
}

// operand is the address of a mode, and the byte, if it is read there by the way.
func (m *model) operand(mode int, reads bool) (high, low api.Byte, early *api.Byte) {
	l := m.next()
	switch mode {
	case opcode.Zp:
		return api.Byte{}, l, nil
	case opcode.ZpX, opcode.ZpY:
		m.read(api.Byte{}, l)
		return api.Byte{}, together(l, m.index(mode)), nil
	case opcode.Abs:
		return m.next(), l, nil
	case opcode.AbsX, opcode.AbsY:
		return m.beside(m.next(), l, m.index(mode), reads)
	case opcode.IndX:
		m.read(api.Byte{}, l)
		l = together(l, m.x)
		low = m.read(api.Byte{}, l)
		return m.read(api.Byte{}, up(l)), low, nil
	}
	low = m.read(api.Byte{}, l)
	return m.beside(m.read(api.Byte{}, up(l)), low, m.y, reads)
}

// together is the sum of two bytes.
func together(a, b api.Byte) api.Byte { return sums.Add(a, b, api.Bit{}, api.Bit{}).A }

// beside is an address and an index together: in the same page first.
func (m *model) beside(h, l, index api.Byte, reads bool) (high, low api.Byte, early *api.Byte) {
	sum := together(l, index)
	x := m.read(h, sum)
	if int(l.V)+int(index.V) > 255 {
		return up(h), sum, nil
	}
	if reads {
		return h, sum, &x
	}
	return h, sum, nil
}

func (m *model) reads(mode int, use func(m *model, x api.Byte)) {
	if mode == opcode.Imm {
		use(m, m.next())
		return
	}
	h, l, early := m.operand(mode, true)
	if early != nil {
		use(m, *early)
		return
	}
	use(m, m.read(h, l))
}

func (m *model) turns(mode int, turn func(x api.Byte, c api.Bit) (api.Byte, api.Bit)) {
	h, l, _ := m.operand(mode, false)
	v := m.read(h, l)
	m.write(h, l, v)
	x, c := turn(v, m.flag(bitC))
	m.write(h, l, x)
	m.setFlag(bitC, c)
	m.tell(x)
}

// branches are the flags by which they go, and what these are if they are taken.
var branches = map[string]struct {
	flag  int
	taken bool
}{
	"BPL": {bitN, false}, "BMI": {bitN, true}, "BVC": {bitV, false}, "BVS": {bitV, true},
	"BCC": {bitC, false}, "BCS": {bitC, true}, "BNE": {bitZ, false}, "BEQ": {bitZ, true},
}

func (m *model) branch(name string) {
	by := m.next()
	flag := m.flag(branches[name].flag)
	if flag.T {
		panic(halt{2, api.ErrAlarm})
	}
	if flag.V != branches[name].taken {
		return
	}
	if by.T > 0 {
		panic(halt{1, api.ErrAlarm})
	}
	n := int(by.V)
	if n > 127 {
		n -= 256
	}
	to := (m.regs().PC + n + 65536) % 65536
	m.look()
	if to/256 != int(m.high.V) {
		m.read(m.high, taint.Of(to))
	}
	m.high, m.low = taint.Of(to/256), taint.Of(to)
}

// implied does what has no operand, or jumps.
func (m *model) implied(x opcode.Op) {
	switch x.Name {
	case "JMP", "JSR":
		m.jump(x)
		return
	case "BRK":
		m.next()
		m.interrupt(true, 65534)
		return
	}
	m.look()
	switch x.Name {
	case "PHA":
		m.push(m.a)
		return
	case "PHP":
		m.push(onStack(m.p, true))
		return
	case "RTS", "RTI", "PLA", "PLP":
		m.peek()
		m.pulls(x.Name)
		return
	}
	if turn, is := turners[x.Name]; is {
		a, c := turn(m.a, m.flag(bitC))
		m.setFlag(bitC, c)
		m.a = m.tell(a)
		return
	}
	alones[x.Name](m)
}

func (m *model) jump(x opcode.Op) {
	l := m.next()
	if x.Name == "JSR" {
		m.peek()
		m.push(m.high)
		m.push(m.low)
	}
	if x.Mode == opcode.Ind {
		h := m.next()
		low := m.read(h, l)
		m.high, m.low = m.read(h, up(l)), low
		return
	}
	m.high, m.low = m.look(), l
}

func (m *model) pulls(name string) {
	switch name {
	case "PLA":
		m.a = m.tell(m.pull())
		return
	case "RTI", "PLP":
		m.p = onStack(m.pull(), false)
	}
	if name == "RTS" || name == "RTI" {
		m.low = m.pull()
		m.high = m.pull()
	}
	if name == "RTS" {
		m.next()
	}
}

// reckoned takes what a sum tells, but V.
func (m *model) reckoned(z sums.Sum) {
	m.setFlag(bitN, z.N)
	m.setFlag(bitZ, z.Z)
	m.setFlag(bitC, z.C)
}

// users are what is done with a byte that is read.
var users = map[string]func(m *model, x api.Byte){
	"LDA": func(m *model, x api.Byte) { m.a = m.tell(x) },
	"LDX": func(m *model, x api.Byte) { m.x = m.tell(x) },
	"LDY": func(m *model, x api.Byte) { m.y = m.tell(x) },
	"AND": func(m *model, x api.Byte) { m.a = m.tell(taint.And(m.a, x)) },
	"ORA": func(m *model, x api.Byte) { m.a = m.tell(taint.Or(m.a, x)) },
	"EOR": func(m *model, x api.Byte) { m.a = m.tell(taint.Xor(m.a, x)) },
	"CMP": func(m *model, x api.Byte) { m.reckoned(sums.Compare(m.a, x)) },
	"CPX": func(m *model, x api.Byte) { m.reckoned(sums.Compare(m.x, x)) },
	"CPY": func(m *model, x api.Byte) { m.reckoned(sums.Compare(m.y, x)) },
	"ADC": func(m *model, x api.Byte) {
		z := sums.Add(m.a, x, m.flag(bitC), m.flag(bitD))
		m.reckoned(z)
		m.setFlag(bitV, z.V)
		m.a = z.A
	},
	"SBC": func(m *model, x api.Byte) {
		z := sums.Sub(m.a, x, m.flag(bitC), m.flag(bitD))
		m.reckoned(z)
		m.setFlag(bitV, z.V)
		m.a = z.A
	},
	"BIT": func(m *model, x api.Byte) {
		m.setFlag(bitZ, taint.Zero(taint.And(m.a, x)))
		m.setFlag(bitN, taint.Bit(x, 7))
		m.setFlag(bitV, taint.Bit(x, 6))
	},
}

// stores are the registers that are written.
var stores = map[string]func(m *model) api.Byte{
	"STA": func(m *model) api.Byte { return m.a },
	"STX": func(m *model) api.Byte { return m.x },
	"STY": func(m *model) api.Byte { return m.y },
}

// turners are what a byte is turned into, and C then.
var turners = map[string]func(x api.Byte, c api.Bit) (api.Byte, api.Bit){
	"ASL": func(x api.Byte, c api.Bit) (api.Byte, api.Bit) { return taint.Left(x, api.Bit{}) },
	"ROL": taint.Left,
	"LSR": func(x api.Byte, c api.Bit) (api.Byte, api.Bit) { return taint.Right(x, api.Bit{}) },
	"ROR": taint.Right,
	"INC": func(x api.Byte, c api.Bit) (api.Byte, api.Bit) { return up(x), c },
	"DEC": func(x api.Byte, c api.Bit) (api.Byte, api.Bit) { return down(x), c },
}

// alones are what is done alone.
var alones = map[string]func(m *model){
	"INX": func(m *model) { m.x = m.tell(up(m.x)) },
	"INY": func(m *model) { m.y = m.tell(up(m.y)) },
	"DEX": func(m *model) { m.x = m.tell(down(m.x)) },
	"DEY": func(m *model) { m.y = m.tell(down(m.y)) },
	"TAX": func(m *model) { m.x = m.tell(m.a) },
	"TAY": func(m *model) { m.y = m.tell(m.a) },
	"TXA": func(m *model) { m.a = m.tell(m.x) },
	"TYA": func(m *model) { m.a = m.tell(m.y) },
	"TSX": func(m *model) { m.x = m.tell(m.s) },
	"TXS": func(m *model) { m.s = m.x },
	"CLC": func(m *model) { m.setFlag(bitC, api.Bit{}) },
	"CLD": func(m *model) { m.setFlag(bitD, api.Bit{}) },
	"CLI": func(m *model) { m.setFlag(bitI, api.Bit{}) },
	"CLV": func(m *model) { m.setFlag(bitV, api.Bit{}) },
	"SEC": func(m *model) { m.setFlag(bitC, api.Bit{V: true}) },
	"SED": func(m *model) { m.setFlag(bitD, api.Bit{V: true}) },
	"SEI": func(m *model) { m.setFlag(bitI, api.Bit{V: true}) },
	"NOP": func(m *model) {},
}

// both is a processor on a bus, with registers, and its model.
func both(t *testing.T, b *bus.Bus, r core.Regs) (*core.CPU, *model) {
	t.Helper()
	c, e := core.New(b, r)
	if c == nil || e != api.OK {
		t.Fatal("New:", c, e)
	}
	return c, modelOf(b, r)
}

// follow does what begins next, of a processor and of its model, and looks cycle by cycle whether they agree; ahead of each cycle but the first one between is called.
func follow(t *testing.T, c *core.CPU, m *model, between func()) (stopped bool) {
	t.Helper()
	if rule, e := c.Stopped(); !c.Ready() || rule != 0 || e != api.OK || c.Regs() != m.regs() {
		t.Fatal("ahead:", c.Ready(), rule, e, c.Regs(), m.regs())
	}
	from := m.regs()
	did, why := m.whole()
	for i, want := range did {
		if i > 0 {
			between()
		}
		r, rule, e := c.Cycle()
		if r != want.record || rule != 0 || e != api.OK {
			t.Fatalf("from %v, cycle %d: %v, %d, %v, not %v", from, i, r, rule, e, want.record)
		}
		if c.Regs() != want.regs {
			t.Fatalf("from %v, behind cycle %d: %v, not %v", from, i, c.Regs(), want.regs)
		}
		if whole := i == len(did)-1 && why == (halt{}); c.Ready() != whole {
			t.Fatalf("from %v, behind cycle %d of %d: Ready is %v", from, i, len(did), c.Ready())
		}
	}
	if why == (halt{}) {
		return false
	}
	stops(t, c, why)
	if c.Regs() != m.regs() {
		t.Fatalf("from %v, stopped: %v, not %v", from, c.Regs(), m.regs())
	}
	return true
}

// stops looks whether each cycle from now on stops, and for what.
func stops(t *testing.T, c *core.CPU, why halt) {
	t.Helper()
	was := c.Regs()
	cycles := c.Bus().Cycles()
	for i := range 3 {
		r, rule, e := c.Cycle()
		if r != (api.Record{}) || rule != why.rule || e != why.e {
			t.Fatalf("stop %d: %v, %d, %v, not %d, %v", i, r, rule, e, why.rule, why.e)
		}
		if rule, e := c.Stopped(); rule != why.rule || e != why.e || c.Ready() {
			t.Fatalf("stopped: %d, %v, %v", rule, e, c.Ready())
		}
		// Nothing lets it go on.
		c.Reset()
		c.NMI()
	}
	if c.Regs() != was || c.Bus().Cycles() != cycles {
		t.Fatalf("turned by a stop: %v, not %v; %d cycles, not %d", c.Regs(), was, c.Bus().Cycles(), cycles)
	}
}

// sameBuses looks whether all of two buses is the same.
func sameBuses(t *testing.T, a, b *bus.Bus) {
	t.Helper()
	if !bus.Low(a, b) || !slices.Equal(a.Ports().Kept(), b.Ports().Kept()) {
		t.Fatal("buses:", a, b)
	}
	m, n := a.Memory(), b.Memory()
	for at := range 65536 {
		x, _ := m.Read(at)
		if y, _ := n.Read(at); x != y {
			t.Fatalf("of memory at %d: %v, not %v", at, x, y)
		}
	}
}

// row is a row of numbers that looks without order, the same one each time.
type row uint64

func (r *row) next(below int) int {
	*r = *r*6364136223846793005 + 1442695040888963407
	return int(uint64(*r) >> 16 % uint64(below))
}

// oneOf is one of some numbers.
func (r *row) oneOf(l ...int) int { return l[r.next(len(l))] }

// value is a number of a byte, often one at an edge.
func (r *row) value() byte {
	if r.next(2) == 0 {
		return byte(r.oneOf(0, 1, 2, 15, 16, 127, 128, 129, 153, 240, 254, 255))
	}
	return byte(r.next(256))
}

// secret is bits that are secret: of one in so many bytes.
func (r *row) secret(one int) byte {
	if one == 0 || r.next(one) > 0 {
		return 0
	}
	return byte(r.oneOf(1, 2, 4, 8, 64, 128, 192, 255, r.next(256)))
}

func (r *row) tainted(one int) api.Byte { return api.Byte{V: r.value(), T: r.secret(one)} }

// address is one of all kinds, often one of a device, or at an edge.
func (r *row) address() int {
	switch r.next(8) {
	case 0, 1:
		return 32768 + r.next(16)
	case 2:
		return r.oneOf(0, 255, 256, 511, 512, 767, 32767, 32784, 49152, 65279, 65530, 65535)
	case 3, 4:
		return r.next(1024)
	case 5:
		return 49152 + r.next(16384)
	}
	return r.next(32768)
}

// regs are registers: of one in so many a secret.
func (r *row) regs(one int) core.Regs {
	return core.Regs{A: r.tainted(one), X: r.tainted(one), Y: r.tainted(one), S: r.tainted(one), P: r.tainted(one), PC: r.address()}
}

// legal are the bytes that are opcodes.
var legal = func() (l []byte) {
	for b := range opcode.All() {
		l = append(l, b)
	}
	return l
}()

// code is an instruction, most often of such numbers that they are opcodes themselves, and none that jumps to where nothing is.
func (r *row) code() []byte {
	b := legal[r.next(len(legal))]
	x, _ := opcode.Of(b)
	operand := legal[r.next(len(legal))]
	if r.next(8) == 0 {
		operand = r.value()
	}
	if opcode.Length(x.Mode) < 3 {
		return []byte{b, operand}[:opcode.Length(x.Mode)]
	}
	at := r.address()
	for x.Kind == opcode.Jumps && at >= 32768 && at < 49152 {
		at = r.address()
	}
	if r.next(4) > 0 && at/256 != 128 {
		at = at&^255 | int(operand)
	}
	return []byte{b, byte(at), byte(at >> 8)}
}

// codes are instructions of so many bytes.
func (r *row) codes(n int) []byte {
	var l []byte
	for len(l) < n {
		l = append(l, r.code()...)
	}
	return l[:n]
}

// memory is one of instructions: of one in so many bytes a secret.
func (r *row) memory(one int) *memory.Memory {
	m := memory.New()
	m.Load(memory.RAM, r.codes(memory.Devices))
	m.Load(memory.ROM, r.codes(api.Size-memory.ROM))
	for at := range 512 {
		// Places that come from here are of RAM, or of ROM.
		if b := r.value(); b < 128 || b >= 192 {
			m.Load(at, []byte{b})
		}
	}
	for at := 65531; at < api.Size; at += 2 {
		m.Load(at, []byte{byte(r.oneOf(r.next(128), 192+r.next(64)))})
	}
	if one == 0 {
		return m
	}
	for at := range api.Size {
		if t := r.secret(one); t > 0 {
			m.Label(at, at, t)
		}
	}
	return m
}

// timer is one that may be, of small numbers, so that it rings.
func (r *row) timer() timer.Timer {
	return timer.Timer{Latch: r.next(50), Count: r.next(50), Runs: r.next(2) > 0, Again: r.next(2) > 0, Asks: r.next(2) > 0, Rings: r.next(4) == 0}
}

// bus is one that has something of all.
func (r *row) bus(t *testing.T, m *memory.Memory) *bus.Bus {
	t.Helper()
	p, _ := ports.New([]byte{1, 2, 3, r.value()}, []byte{4, 5, 6, r.value()})
	w := wheel.New()
	w.Write(wheel.Turn, api.Byte{V: r.value()})
	b, e := bus.New(m, r.timer(), p, w)
	if e != api.OK {
		t.Fatal(e)
	}
	return b
}

// plain is a bus of noughts, but for those bytes from 512 on, and the vectors: $0300 of NMI, $0400 of Reset, $0500 of IRQ.
func plain(t *testing.T, code []byte, turn func(m *memory.Memory)) *bus.Bus {
	t.Helper()
	m := memory.New()
	if e := m.Load(512, code); e != api.OK {
		t.Fatal(e)
	}
	m.Load(65530, []byte{0, 3, 0, 4, 0, 5})
	if turn != nil {
		turn(m)
	}
	p, _ := ports.New([]byte{7}, []byte{9})
	b, e := bus.New(m, timer.Timer{}, p, wheel.New())
	if e != api.OK {
		t.Fatal(e)
	}
	return b
}
