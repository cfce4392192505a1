package bus_test

import (
	"math"
	"slices"
	"testing"

	"cochineal/api"
	"cochineal/bus"
	"cochineal/memory"
	"cochineal/ports"
	"cochineal/timer"
	"cochineal/wheel"
)

// Whose an address is.
const (
	ofNone = iota // it is no address
	ofMemory
	ofTimer
	ofPorts
	ofWheel
	ofNothing
)

// owner is whose an address of a device is, and which register.
type owner struct{ of, reg int }

// owners are all that devices have, one by one.
var owners = map[int]owner{
	32768: {ofTimer, 0}, 32769: {ofTimer, 1}, 32770: {ofTimer, 2}, 32771: {ofTimer, 3},
	32772: {ofPorts, 0}, 32773: {ofPorts, 1}, 32774: {ofPorts, 2}, 32775: {ofPorts, 3}, 32776: {ofPorts, 4},
	32777: {ofWheel, 0}, 32778: {ofWheel, 1}, 32779: {ofWheel, 2},
	32780: {ofNothing, 0}, 32781: {ofNothing, 1}, 32782: {ofNothing, 2}, 32783: {ofNothing, 3},
}

// ownerOf is whose any number is.
func ownerOf(at int) owner {
	if o, ok := owners[at]; ok {
		return o
	}
	if at < 0 || at > 65535 {
		return owner{of: ofNone}
	}
	return owner{ofMemory, at}
}

// model is a bus by the chapter's words, written otherwise: parts that stand side by side.
type model struct {
	m      *memory.Memory
	t      timer.Timer
	p      *ports.Ports
	w      *wheel.Wheel
	cycles int
}

func (m *model) clone() *model {
	return &model{m.m.Clone(), m.t, m.p.Clone(), m.w.Clone(), m.cycles}
}

// passes lets a cycle pass.
func (m *model) passes() {
	m.t.Tick()
	m.cycles++
}

func (m *model) read(at int) (api.Byte, api.Errno) {
	var x api.Byte
	switch o := ownerOf(at); o.of {
	case ofNone:
		return x, api.ErrRange
	case ofMemory:
		x, _ = m.m.Read(at)
	case ofTimer:
		x.V, _ = m.t.Read(o.reg)
	case ofPorts:
		x, _ = m.p.Read(o.reg)
	case ofWheel:
		x, _ = m.w.Read(o.reg)
	case ofNothing:
		x.V = 255
	}
	m.passes()
	return x, api.OK
}

func (m *model) write(at int, x api.Byte) (int, api.Errno) {
	rule, e := 0, api.OK
	o := ownerOf(at)
	switch {
	case o.of == ofNone:
		return 0, api.ErrRange
	case o.of == ofMemory:
		e = m.m.Write(at, x)
	case o.of == ofPorts:
		rule, e = m.p.Write(o.reg, x, m.cycles)
	case o.of == ofWheel:
		rule, e = m.w.Write(o.reg, x)
	case x.T > 0:
		return 4, api.ErrAlarm
	case o.of == ofTimer:
		e = m.t.Write(o.reg, x.V)
	}
	if e == api.OK {
		m.passes()
	}
	return rule, e
}

// alike tells, bit by bit, whether two bytes are the same but for secrets.
func alike(a, b api.Byte) bool {
	for i := range 8 {
		bit := byte(1) << i
		if a.T&bit != b.T&bit || a.T&bit == 0 && a.V&bit != b.V&bit {
			return false
		}
	}
	return true
}

// agree looks whether a bus is as a model tells, but for bytes of memory; nothing of both turns by it.
func agree(t *testing.T, b *bus.Bus, m *model) {
	t.Helper()
	if b.Cycles() != m.cycles {
		t.Fatalf("Cycles: %d, not %d", b.Cycles(), m.cycles)
	}
	if b.Timer() != m.t {
		t.Fatalf("Timer: %v, not %v", b.Timer(), m.t)
	}
	if b.IRQ() != (m.t.Rings && m.t.Asks) {
		t.Fatalf("IRQ: %v of %v", b.IRQ(), m.t)
	}
	if w := b.Wheel(); !wheel.Same(w, m.w) {
		t.Fatalf("Wheel: %v, not %v", w, m.w)
	}
	samePorts(t, b.Ports(), m.p)
}

// agreeWholly looks whether a bus is as a model tells, byte by byte.
func agreeWholly(t *testing.T, b *bus.Bus, m *model) {
	t.Helper()
	agree(t, b, m)
	sameMemory(t, b.Memory(), m.m)
	p, q := b.Ports(), m.p.Clone()
	for reg := range 2 {
		for range q.Left(reg) + 2 {
			x, _ := p.Read(reg)
			if y, _ := q.Read(reg); x != y {
				t.Fatalf("of what comes in at %d: %v, not %v", reg, x, y)
			}
		}
	}
}

// samePorts looks whether ports are the same, of what is still to come in as far as it is not secret.
func samePorts(t *testing.T, p, q *ports.Ports) {
	t.Helper()
	if !ports.Low(p, q) || !slices.Equal(p.Kept(), q.Kept()) {
		t.Fatalf("Ports: %v, not %v", p, q)
	}
}

// sameMemory looks whether each byte of two memories is the same.
func sameMemory(t *testing.T, m, n *memory.Memory) {
	t.Helper()
	for at := range 65536 {
		x, e := m.Read(at)
		if y, f := n.Read(at); x != y || e != f {
			t.Fatalf("of memory at %d: %v, %v, not %v, %v", at, x, e, y, f)
		}
	}
}

// readBoth reads of a bus and of its model.
func readBoth(t *testing.T, b *bus.Bus, m *model, at int) {
	t.Helper()
	x, e := b.Read(at)
	if y, f := m.read(at); x != y || e != f {
		t.Fatalf("Read(%d): %v, %v, not %v, %v", at, x, e, y, f)
	}
}

// writeBoth writes to a bus and to its model.
func writeBoth(t *testing.T, b *bus.Bus, m *model, at int, x api.Byte) {
	t.Helper()
	rule, e := b.Write(at, x)
	if want, f := m.write(at, x); rule != want || e != f {
		t.Fatalf("Write(%d, %v): %d, %v, not %d, %v", at, x, rule, e, want, f)
	}
}

// row is a row of numbers that looks without order, the same one each time.
type row uint64

func (r *row) next(below int) int {
	*r = *r*6364136223846793005 + 1442695040888963407
	return int(uint64(*r) >> 16 % uint64(below))
}

// bytes are so many, of all kinds.
func (r *row) bytes(n int) []byte {
	l := make([]byte, n)
	for i := range l {
		l[i] = byte(r.next(256))
	}
	return l
}

// tainted is a byte, often one that is not secret.
func (r *row) tainted() api.Byte {
	return api.Byte{V: byte(r.next(256)), T: []byte{0, 0, 0, 0, 1, 128, 255, byte(r.next(256))}[r.next(8)]}
}

// at is a number, most often an address of a device, now and then none.
func (r *row) at() int {
	switch r.next(8) {
	case 0:
		return edges[r.next(len(edges))]
	case 1, 2:
		return []int{512, 513, 49152, 40000}[r.next(4)]
	}
	return 32768 + r.next(16)
}

// timer is one that may be, of small numbers, so that it rings.
func (r *row) timer() timer.Timer {
	return timer.Timer{Latch: r.next(5), Count: r.next(5), Runs: r.next(2) > 0, Again: r.next(2) > 0, Asks: r.next(2) > 0, Rings: r.next(2) > 0}
}

// edges are numbers at both ends of each kind of addresses, some within, and some that are none.
var edges = []int{
	math.MinInt, math.MinInt + 32768, -1 << 32, -65536, -32768, -5, -1,
	0, 1, 2, 255, 256, 512, 32766, 32767,
	32784, 32785, 32788, 40000, 49150, 49151,
	49152, 49153, 65280, 65534, 65535,
	65536, 65537, 98304, 98308, 1 << 32, 1<<32 + 32768, math.MaxInt - 1, math.MaxInt,
}

// some is a bus that has something of all, and its model.
func some(t *testing.T, r *row) (*bus.Bus, *model) {
	t.Helper()
	m := memory.New()
	for _, c := range [][2]int{{0, 32768}, {49152, 16384}} {
		if e := m.Load(c[0], r.bytes(c[1])); e != api.OK {
			t.Fatal(e)
		}
		for range 20 {
			if from := c[0] + r.next(c[1]-100); m.Label(from, from+r.next(100), byte(r.next(256))) != api.OK {
				t.Fatal(from)
			}
		}
	}
	m.Label(512, 512, 15)
	m.Label(65535, 65535, 129)
	p, _ := ports.New(r.bytes(r.next(9)), r.bytes(r.next(9)))
	p.Write(ports.PublicOut, api.Byte{V: byte(r.next(256))}, 0)
	p.Write(ports.SecretOut, r.tainted(), 0)
	p.Write(ports.Declassify, r.tainted(), r.next(1000))
	w := wheel.New()
	w.Write(wheel.Turn, api.Byte{V: byte(r.next(256))})
	return made(t, &model{m: m, t: r.timer(), p: p, w: w})
}

// plain is a bus of noughts, at which those bytes come in, and its model.
func plain(t *testing.T, x timer.Timer, public, secret []byte) (*bus.Bus, *model) {
	t.Helper()
	p, e := ports.New(public, secret)
	if e != api.OK {
		t.Fatal(e)
	}
	return made(t, &model{m: memory.New(), t: x, p: p, w: wheel.New()})
}

// made is a bus of what a model has, as long as nothing was done, and the model.
func made(t *testing.T, m *model) (*bus.Bus, *model) {
	t.Helper()
	b, e := bus.New(m.m, m.t, m.p, m.w)
	if b == nil || e != api.OK {
		t.Fatal("New:", b, e)
	}
	return b, m
}

// P13.1, P13.2
func TestRowsOfCallsAreAsOfTheModel(t *testing.T) {
	r := row(7)
	for range 60 {
		b, m := some(t, &r)
		for range 300 {
			switch r.next(20) {
			case 0:
				was := b
				b = b.Clone()
				// What is done with the one that is left behind is nothing to its clone.
				was.Write(512, api.Byte{V: 99, T: 99})
				was.Write(32768+r.next(16), api.Byte{V: 99})
			case 1, 2, 3, 4, 5, 6, 7:
				readBoth(t, b, m, r.at())
			default:
				writeBoth(t, b, m, r.at(), r.tainted())
			}
			agree(t, b, m)
		}
		agreeWholly(t, b, m)
	}
}

// P13.4: of buses that are Low, to which the same is done but for secrets.
func TestWhatIsLowStaysSo(t *testing.T) {
	r := row(11)
	for range 60 {
		_, m := some(t, &r)
		n := m.clone()
		for at, x := range n.m.Secret() {
			x.V ^= x.T & byte(r.next(256))
			n.m.Label(at, at, 0)
			// ROM is told by Load alone.
			n.m.Load(at, []byte{x.V})
			n.m.Label(at, at, x.T)
		}
		public, secret := r.bytes(9), r.bytes(9)
		m.p, _ = ports.New(public, secret)
		n.p, _ = ports.New(public, r.bytes(9))
		a, _ := made(t, m)
		b, _ := made(t, n)
		for range 200 {
			bothAlike(t, &r, a, b)
			if r.next(30) == 0 {
				b = b.Clone()
			}
		}
	}
}

// bothAlike does something with two buses that are Low, and looks whether they tell the same but for secrets.
func bothAlike(t *testing.T, r *row, a, b *bus.Bus) {
	t.Helper()
	at, cycles := r.at(), a.Cycles()
	x, e := a.Read(at)
	if y, f := b.Read(at); !alike(x, y) || e != f {
		t.Fatalf("Read(%d): %v, %v, and %v, %v", at, x, e, y, f)
	}
	if e == api.OK {
		cycles++
	}
	at, x = r.at(), r.tainted()
	if at == 32776 {
		x.T = 0
	}
	y := api.Byte{V: x.V ^ x.T&byte(r.next(256)), T: x.T}
	rule, e := a.Write(at, x)
	if other, f := b.Write(at, y); rule != other || e != f {
		t.Fatalf("Write(%d) of %v and %v: %d, %v, and %d, %v", at, x, y, rule, e, other, f)
	}
	if e == api.OK {
		cycles++
	}
	if a.Cycles() != cycles || b.Cycles() != cycles || a.IRQ() != b.IRQ() {
		t.Fatalf("behind Write(%d) of %v and %v: Cycles %d and %d, not %d", at, x, y, a.Cycles(), b.Cycles(), cycles)
	}
	if r.next(5) == 0 && (!bus.Low(a, b) || !bus.Low(b, a)) {
		t.Fatalf("low no longer behind Write(%d) of %v and %v", at, x, y)
	}
}
