package bus_test

import (
	"math"
	"testing"

	"cochineal/api"
	"cochineal/bus"
	"cochineal/memory"
	"cochineal/ports"
	"cochineal/timer"
	"cochineal/wheel"
)

// secrets are some kinds of secret bits.
var secrets = []byte{1, 2, 15, 64, 128, 255}

// timers are all kinds of them, with such numbers.
func timers(latch, count int) []timer.Timer {
	var l []timer.Timer
	for i := range 16 {
		l = append(l, timer.Timer{Latch: latch, Count: count, Runs: i&1 > 0, Again: i&2 > 0, Asks: i&4 > 0, Rings: i&8 > 0})
	}
	return l
}

// P13.1, R1: nil is named ahead of the range.
func TestNewOfNil(t *testing.T) {
	for i := range 7 {
		m, w := memory.New(), wheel.New()
		p, _ := ports.New(nil, nil)
		if i&1 == 0 {
			m = nil
		}
		if i&2 == 0 {
			p = nil
		}
		if i&4 == 0 {
			w = nil
		}
		for _, x := range []timer.Timer{{}, {Latch: 65535, Runs: true}, {Latch: -1}, {Count: 65536}} {
			if b, e := bus.New(m, x, p, w); b != nil || e != api.ErrNil {
				t.Error(i, x, b, e)
			}
		}
	}
}

// P13.1
func TestNewOfTimers(t *testing.T) {
	p, _ := ports.New(nil, nil)
	may := []int{0, 1, 255, 256, 32768, 65534, 65535}
	mayNot := []int{math.MinInt, -65536, -2, -1, 65536, 65537, 1 << 32, math.MaxInt}
	for i, n := range append(may, mayNot...) {
		for j, o := range append(may, mayNot...) {
			want := api.OK
			if i >= len(may) || j >= len(may) {
				want = api.ErrRange
			}
			for _, x := range timers(n, o) {
				b, e := bus.New(memory.New(), x, p, wheel.New())
				if e != want || (b != nil) != (e == api.OK) {
					t.Fatal(x, b, e)
				}
				if b != nil && (b.Timer() != x || b.Cycles() != 0 || b.IRQ() != (x.Rings && x.Asks)) {
					t.Fatal(x, b.Timer(), b.Cycles(), b.IRQ())
				}
			}
		}
	}
}

// turnAll turns all that a memory, ports and a wheel have.
func turnAll(m *memory.Memory, p *ports.Ports, w *wheel.Wheel) {
	m.Write(512, api.Byte{V: 77, T: 7})
	m.Load(65535, []byte{66})
	p.Read(ports.PublicIn)
	p.Read(ports.SecretIn)
	p.Write(ports.PublicOut, api.Byte{V: 55}, 5)
	p.Write(ports.SecretOut, api.Byte{V: 44, T: 4}, 4)
	p.Write(ports.Declassify, api.Byte{V: 33, T: 3}, 3)
	w.Write(wheel.Turn, api.Byte{V: 21})
}

// useAll turns all that a bus has.
func useAll(b *bus.Bus) {
	for _, at := range []int{512, 32768, 32769, 32771, 32774, 32775, 32776, 32777} {
		b.Write(at, api.Byte{V: 89})
	}
	b.Write(32770, api.Byte{V: 7})
	b.Read(32772)
	b.Read(32773)
}

// P13.1
func TestNewIsOfItsOwn(t *testing.T) {
	r := row(1)
	for range 5 {
		b, m := some(t, &r)
		n := m.clone()
		agreeWholly(t, b, m)
		turnAll(m.m, m.p, m.w)
		agreeWholly(t, b, n)
		turned := m.clone()
		other, _ := bus.New(m.m, m.t, m.p, m.w)
		useAll(b)
		useAll(other)
		sameMemory(t, m.m, turned.m)
		samePorts(t, m.p, turned.p)
		if !wheel.Same(m.w, turned.w) {
			t.Error(m.w)
		}
	}
}

// P13.1
func TestWhatItHasIsToldByClones(t *testing.T) {
	r := row(2)
	b, m := some(t, &r)
	for range 3 {
		turnAll(b.Memory(), b.Ports(), b.Wheel())
		x := b.Timer()
		x.Tick()
		x.Write(2, 7)
		agreeWholly(t, b, m)
	}
	was, p, w := b.Memory(), b.Ports(), b.Wheel()
	useAll(b)
	sameMemory(t, was, m.m)
	samePorts(t, p, m.p)
	if !wheel.Same(w, m.w) {
		t.Error(w)
	}
}

// P13.1
func TestClone(t *testing.T) {
	r := row(3)
	for range 5 {
		b, m := some(t, &r)
		for range 20 {
			writeBoth(t, b, m, r.at(), r.tainted())
		}
		c, n := b.Clone(), m.clone()
		if c == b || !bus.Low(b, c) || !bus.Low(c, b) {
			t.Fatal("no clone")
		}
		useAll(b)
		agreeWholly(t, c, n)
		useAll(c)
		useAll(c)
		d, e := bus.New(b.Memory(), b.Timer(), b.Ports(), b.Wheel())
		if e != api.OK || d.Cycles() != 0 {
			t.Error(e, d.Cycles())
		}
		b, m = b.Clone(), &model{b.Memory(), b.Timer(), b.Ports(), b.Wheel(), b.Cycles()}
		agreeWholly(t, b, m)
		if c.Cycles() != n.cycles+22 || b.Cycles() != n.cycles+11 {
			t.Error(c.Cycles(), b.Cycles(), n.cycles)
		}
	}
}

// P13.1
func TestIRQ(t *testing.T) {
	for _, latch := range []int{0, 3} {
		for _, x := range timers(latch, 1) {
			b, m := plain(t, x, nil, nil)
			for i := range 9 {
				if x := b.Timer(); b.IRQ() != x.IRQ() {
					t.Fatal(x, i, b.IRQ())
				}
				readBoth(t, b, m, 0)
				agree(t, b, m)
			}
			// It is asked for no longer, once it rings no longer.
			writeBoth(t, b, m, 32770, api.Byte{V: 4})
			writeBoth(t, b, m, 32771, api.Byte{})
			if b.IRQ() {
				t.Fatal(x, b.Timer())
			}
		}
	}
}

// P13.2
func TestReadOfAllAddresses(t *testing.T) {
	r := row(4)
	b, m := some(t, &r)
	cycles := 0
	for at := -300; at < 65536+300; at++ {
		readBoth(t, b, m, at)
		if at >= 0 && at < 65536 {
			cycles++
		}
		if b.Cycles() != cycles {
			t.Fatal(at, b.Cycles())
		}
	}
	agreeWholly(t, b, m)
}

// P13.2
func TestWriteOfAllAddresses(t *testing.T) {
	for _, secret := range []byte{0, 8} {
		r := row(5)
		b, m := some(t, &r)
		for at := -300; at < 65536+300; at++ {
			was := b.Cycles()
			writeBoth(t, b, m, at, api.Byte{V: byte(at*7 + at>>8), T: secret})
			passed := at >= 0 && at < 65536 && (secret == 0 || owners[at] == owner{} || at == 32775 || at == 32776)
			if (b.Cycles() == was+1) != passed || (b.Cycles() == was) == passed {
				t.Fatal(at, was, b.Cycles())
			}
		}
		agreeWholly(t, b, m)
	}
}

// P13.2, R1: the range is named ahead of the alarm, and nothing turns.
func TestOfNoAddress(t *testing.T) {
	r := row(6)
	b, m := some(t, &r)
	for _, at := range edges {
		if at >= 0 && at <= 65535 {
			continue
		}
		for _, x := range []api.Byte{{}, {V: 7}, {V: 7, T: 1}, {V: 255, T: 255}} {
			if rule, e := b.Write(at, x); rule != 0 || e != api.ErrRange {
				t.Error("Write", at, x, rule, e)
			}
		}
		if x, e := b.Read(at); x != (api.Byte{}) || e != api.ErrRange {
			t.Error("Read", at, x, e)
		}
		agree(t, b, m)
	}
	agreeWholly(t, b, m)
}

// P13.2
func TestNoSecretGoesWhereAllMayRead(t *testing.T) {
	b, m := plain(t, timer.Timer{Latch: 9, Count: 4, Runs: true, Again: true}, []byte{1, 2}, []byte{3})
	for at := 32768; at < 32784; at++ {
		for secret := 1; secret < 256; secret++ {
			for _, v := range []byte{0, 1, 7, 128, 255} {
				if at == 32775 || at == 32776 {
					continue
				}
				if rule, e := b.Write(at, api.Byte{V: v, T: byte(secret)}); rule != api.RuleSink || e != api.ErrAlarm {
					t.Fatal(at, secret, v, rule, e)
				}
			}
		}
		agree(t, b, m)
	}
	agreeWholly(t, b, m)
	if b.Cycles() != 0 || b.Timer().Count != 4 {
		t.Error(b.Cycles(), b.Timer())
	}
}

// P13.2
func TestWhereSecretsMayGo(t *testing.T) {
	b, m := plain(t, timer.Timer{}, nil, nil)
	for _, at := range []int{0, 512, 32767, 32775, 32776, 32784, 40000, 49151, 49152, 65535} {
		for _, secret := range secrets {
			x := api.Byte{V: 90 ^ secret, T: secret}
			if rule, e := b.Write(at, x); rule != 0 || e != api.OK {
				t.Fatal(at, x, rule, e)
			}
			m.write(at, x)
			want := x
			switch {
			case at == 32776:
				want.T = 0
			case at >= 49152:
				want = api.Byte{}
			case at >= 32784:
				want = api.Byte{V: 255}
			}
			if y, e := b.Read(at); y != want || e != api.OK {
				t.Fatal(at, x, y, e)
			}
			m.read(at)
		}
	}
	agreeWholly(t, b, m)
}

// P13.2: what is read of the timer is as it was ahead of the cycle, and what is written ticks by it.
func TestTheTimerTicksBehind(t *testing.T) {
	b, _ := plain(t, timer.Timer{Count: 260, Runs: true}, nil, nil)
	for n := 260; n > 200; n -= 2 {
		if x, e := b.Read(32768); x != (api.Byte{V: byte(n)}) || e != api.OK {
			t.Fatal(n, x, e)
		}
		if x, e := b.Read(32769); x != (api.Byte{V: byte((n - 1) / 256)}) || e != api.OK {
			t.Fatal(n, x, e)
		}
	}
	for latch := range 300 {
		b, m := plain(t, timer.Timer{}, nil, nil)
		writeBoth(t, b, m, 32768, api.Byte{V: byte(latch)})
		writeBoth(t, b, m, 32769, api.Byte{V: byte(latch / 256)})
		if x := b.Timer(); x != (timer.Timer{Latch: latch}) {
			t.Fatal(x)
		}
		writeBoth(t, b, m, 32770, api.Byte{V: 7})
		want := timer.Timer{Latch: latch, Count: latch - 1, Runs: true, Again: true, Asks: true}
		if latch == 0 {
			want.Count, want.Rings = 0, true
		}
		if b.Timer() != want || b.IRQ() != want.Rings {
			t.Fatal(latch, b.Timer())
		}
	}
}

// P13.2
func TestWhatRingsIsMadeSilent(t *testing.T) {
	for v := range 256 {
		b, _ := plain(t, timer.Timer{Asks: true, Rings: true}, nil, nil)
		if x, e := b.Read(32771); x != (api.Byte{V: 128}) || e != api.OK || !b.IRQ() {
			t.Fatal(x, e)
		}
		if rule, e := b.Write(32771, api.Byte{V: byte(v)}); rule != 0 || e != api.OK || b.IRQ() {
			t.Fatal(v, rule, e)
		}
		if x, e := b.Read(32771); x != (api.Byte{}) || e != api.OK {
			t.Fatal(x, e)
		}
	}
	// One that is to ring in the same cycle rings nevertheless.
	b, _ := plain(t, timer.Timer{Runs: true, Again: true, Asks: true, Rings: true}, nil, nil)
	if rule, e := b.Write(32771, api.Byte{}); rule != 0 || e != api.OK || !b.IRQ() {
		t.Error(rule, e, b.Timer())
	}
}

// P13.2
func TestTheLogTellsCyclesAheadOfTheWrite(t *testing.T) {
	b, _ := plain(t, timer.Timer{}, nil, nil)
	var want []ports.Entry
	for i := range 100 {
		for range i % 3 {
			b.Read(32784)
			b.Read(65536)
			b.Write(32777, api.Byte{T: 1})
		}
		x := api.Byte{V: byte(i * 3), T: byte(i)}
		want = append(want, ports.Entry{Cycle: b.Cycles(), V: x.V})
		if rule, e := b.Write(32776, x); rule != 0 || e != api.OK {
			t.Fatal(i, rule, e)
		}
	}
	l := b.Ports().Log()
	if len(l) != len(want) || b.Cycles() != 199 {
		t.Fatal(len(l), b.Cycles())
	}
	for i := range l {
		if l[i] != want[i] {
			t.Fatal(i, l[i], want[i])
		}
	}
}

// P13.2
func TestFull(t *testing.T) {
	for _, at := range []int{32774, 32775, 32776} {
		b, m := plain(t, timer.Timer{Latch: 99, Count: 50, Runs: true, Again: true}, nil, nil)
		for i := range 4096 {
			writeBoth(t, b, m, at, api.Byte{V: byte(i)})
		}
		if b.Cycles() != 4096 {
			t.Fatal(at, b.Cycles())
		}
		for range 3 {
			if rule, e := b.Write(at, api.Byte{V: 1}); rule != 0 || e != api.ErrFull {
				t.Fatal(at, rule, e)
			}
			agree(t, b, m)
		}
		for other := 32774; other < 32777; other++ {
			if other != at {
				writeBoth(t, b, m, other, api.Byte{V: 1})
			}
		}
		if rule, e := b.Write(32774, api.Byte{T: 1}); rule != api.RuleSink || e != api.ErrAlarm {
			t.Error(rule, e)
		}
		agreeWholly(t, b, m)
	}
}

// P13.2
func TestWhatComesIn(t *testing.T) {
	b, _ := plain(t, timer.Timer{}, []byte{5, 6}, []byte{9, 8})
	for i, c := range []struct {
		at int
		x  api.Byte
	}{
		{32772, api.Byte{V: 5}}, {32773, api.Byte{V: 9, T: 255}}, {32773, api.Byte{V: 8, T: 255}}, {32773, api.Byte{T: 255}},
		{32772, api.Byte{V: 6}}, {32772, api.Byte{}}, {32773, api.Byte{T: 255}},
	} {
		if rule, e := b.Write(c.at, api.Byte{V: 200}); rule != 0 || e != api.OK {
			t.Fatal(i, rule, e)
		}
		if x, e := b.Read(c.at); x != c.x || e != api.OK || b.Cycles() != 2*i+2 {
			t.Fatal(i, x, e, b.Cycles())
		}
	}
}

// P13.2
func TestTheWheelTurns(t *testing.T) {
	b, _ := plain(t, timer.Timer{}, nil, nil)
	for i, c := range []struct{ at, v, turned, x, y int }{
		{32777, 13, 13, 0, 3}, {32777, 6, 6, 0, 2}, {32778, 9, 6, 0, 2}, {32779, 9, 6, 0, 2}, {32777, 21, 21, 5, 2}, {32777, 254, 254, 198, 2},
	} {
		if rule, e := b.Write(c.at, api.Byte{V: byte(c.v)}); rule != 0 || e != api.OK {
			t.Fatal(i, rule, e)
		}
		for reg, v := range []int{c.turned, c.x, c.y} {
			if x, e := b.Read(32777 + reg); x != (api.Byte{V: byte(v)}) || e != api.OK {
				t.Fatal(i, reg, x, e)
			}
		}
	}
}

// P13.2
func TestWhereThereIsNothing(t *testing.T) {
	b, _ := plain(t, timer.Timer{}, nil, nil)
	c := b.Clone()
	for at := 32780; at < 32784; at++ {
		for v := range 256 {
			if rule, e := b.Write(at, api.Byte{V: byte(v)}); rule != 0 || e != api.OK {
				t.Fatal(at, v, rule, e)
			}
			if x, e := b.Read(at); x != (api.Byte{V: 255}) || e != api.OK {
				t.Fatal(at, v, x, e)
			}
			c.Read(0)
			c.Read(0)
		}
		if !bus.Low(b, c) {
			t.Fatal(at)
		}
	}
}

// P13.4: what is read, and written, where there is memory, is as of memory.
func TestWhereThereIsMemory(t *testing.T) {
	r := row(9)
	b, n := some(t, &r)
	m := n.m.Clone()
	for i := range 20000 {
		at := r.next(65536)
		if at >= 32768 && at < 32784 {
			continue
		}
		was, x := b.Cycles(), r.tainted()
		if rule, e := b.Write(at, x); rule != 0 || e != m.Write(at, x) {
			t.Fatal(i, at, x, rule, e)
		}
		if i%2 > 0 {
			at = r.next(32768)
		}
		y, e := b.Read(at)
		if z, f := m.Read(at); y != z || e != f || b.Cycles() != was+2 {
			t.Fatal(i, at, y, e, z, f, was, b.Cycles())
		}
	}
	sameMemory(t, b.Memory(), m)
}

// P13.1, P13.2, P13.3
func TestOfNil(t *testing.T) {
	var b *bus.Bus
	for _, at := range append([]int{32768, 32772, 32774, 32777, 32780, 32783}, edges...) {
		for _, x := range []api.Byte{{}, {V: 7}, {V: 7, T: 1}} {
			if rule, e := b.Write(at, x); rule != 0 || e != api.ErrNil {
				t.Error("Write", at, x, rule, e)
			}
		}
		if x, e := b.Read(at); x != (api.Byte{}) || e != api.ErrNil {
			t.Error("Read", at, x, e)
		}
	}
	if b.IRQ() || b.Cycles() != 0 || b.Timer() != (timer.Timer{}) {
		t.Error(b.IRQ(), b.Cycles(), b.Timer())
	}
	if b.Memory() != nil || b.Ports() != nil || b.Wheel() != nil || b.Clone() != nil {
		t.Error(b.Memory(), b.Ports(), b.Wheel(), b.Clone())
	}
	if c, _ := plain(t, timer.Timer{}, nil, nil); !bus.Low(b, nil) || bus.Low(b, c) || bus.Low(c, b) {
		t.Error("Low")
	}
}

// P13.3
func TestLowOfEachDifference(t *testing.T) {
	r := row(10)
	_, m := some(t, &r)
	m.m.Load(600, []byte{12})
	m.m.Label(600, 600, 3)
	m.p, _ = ports.New([]byte{1, 2}, []byte{3, 4})
	for i, c := range []struct {
		turn func(m *model)
		want bool
	}{
		{func(m *model) {}, true},
		{func(m *model) { m.m.Write(600, api.Byte{V: 13, T: 3}) }, true},
		{func(m *model) { m.m.Write(600, api.Byte{V: 8, T: 3}) }, false},
		{func(m *model) { m.m.Write(600, api.Byte{V: 12, T: 1}) }, false},
		{func(m *model) { m.m.Write(600, api.Byte{V: 12}) }, false},
		{func(m *model) { m.m.Load(49152, []byte{1, 2, 3, 4}) }, false},
		{func(m *model) { m.p, _ = ports.New([]byte{1, 2}, []byte{255, 0}) }, true},
		{func(m *model) { m.p, _ = ports.New([]byte{1, 3}, []byte{3, 4}) }, false},
		{func(m *model) { m.p, _ = ports.New([]byte{1, 2}, []byte{3}) }, false},
		{func(m *model) { m.p.Read(ports.PublicIn) }, false},
		{func(m *model) { m.p.Read(ports.SecretIn) }, false},
		{func(m *model) { m.p.Write(ports.PublicOut, api.Byte{}, 0) }, false},
		{func(m *model) { m.p.Write(ports.SecretOut, api.Byte{}, 0) }, false},
		{func(m *model) { m.p.Write(ports.Declassify, api.Byte{}, 0) }, false},
		{func(m *model) { m.w.Write(wheel.Turn, api.Byte{V: 4}) }, false},
		{func(m *model) { m.w.Write(wheel.Turn, api.Byte{V: 1}) }, false},
		{func(m *model) { m.t.Latch++ }, false},
		{func(m *model) { m.t.Count++ }, false},
		{func(m *model) { m.t.Runs = !m.t.Runs }, false},
		{func(m *model) { m.t.Again = !m.t.Again }, false},
		{func(m *model) { m.t.Asks = !m.t.Asks }, false},
		{func(m *model) { m.t.Rings = !m.t.Rings }, false},
	} {
		n := m.clone()
		c.turn(n)
		a, _ := made(t, m)
		b, _ := made(t, n)
		if bus.Low(a, b) != c.want || bus.Low(b, a) != c.want || !bus.Low(b, b) {
			t.Error(i, bus.Low(a, b), bus.Low(b, a))
		}
	}
}

// P13.3
func TestLowOfCycles(t *testing.T) {
	a, _ := plain(t, timer.Timer{Latch: 5, Count: 3}, nil, nil)
	b := a.Clone()
	for i := range 10 {
		if b.Read(512); bus.Low(a, b) || bus.Low(b, a) {
			t.Fatal(i, a.Cycles(), b.Cycles())
		}
		if a.Write(32783, api.Byte{}); !bus.Low(a, b) || !bus.Low(b, a) {
			t.Fatal(i, a.Cycles(), b.Cycles())
		}
		// What is answered with an error takes none.
		if a.Write(32783, api.Byte{T: 1}); !bus.Low(a, b) {
			t.Fatal(i, a.Cycles(), b.Cycles())
		}
	}
}

// P13.3: secrets that are declassified do tell.
func TestLowOfWhatIsDeclassified(t *testing.T) {
	a, _ := plain(t, timer.Timer{}, nil, []byte{3})
	b, _ := plain(t, timer.Timer{}, nil, []byte{4})
	x, _ := a.Read(32773)
	y, _ := b.Read(32773)
	for _, at := range []int{512, 32775, 40000} {
		a.Write(at, x)
		b.Write(at, y)
		if !bus.Low(a, b) {
			t.Fatal(at)
		}
	}
	a.Write(32776, x)
	b.Write(32776, y)
	if bus.Low(a, b) {
		t.Error("declassified")
	}
}

// P13.3: Low turns nothing.
func TestLowTurnsNothing(t *testing.T) {
	r := row(12)
	a, m := some(t, &r)
	b, n := some(t, &r)
	for range 3 {
		bus.Low(a, b)
		bus.Low(b, a)
		bus.Low(a, a)
	}
	agreeWholly(t, a, m)
	agreeWholly(t, b, n)
}

// A bus has the methods of its memory; what they do is done there.
func TestItsMemoryIsItsOwnPart(t *testing.T) {
	b, m := plain(t, timer.Timer{}, nil, nil)
	if e := b.Load(49152, []byte{1, 2}); e != api.OK || m.m.Load(49152, []byte{1, 2}) != api.OK {
		t.Fatal(e)
	}
	if e := b.Label(49153, 49153, 8); e != api.OK || m.m.Label(49153, 49153, 8) != api.OK {
		t.Fatal(e)
	}
	for at, x := range b.Secret() {
		if at != 49153 || x != (api.Byte{V: 2, T: 8}) {
			t.Error(at, x)
		}
	}
	agreeWholly(t, b, m)
}

// P13.2 (the chapter's examples)
func TestExamples(t *testing.T) {
	b, _ := plain(t, timer.Timer{}, nil, nil)
	rule, e := b.Write(32774, api.Byte{V: 6})
	if l := b.Ports().Out(); rule != 0 || e != api.OK || len(l) != 1 || l[0] != 6 || b.Cycles() != 1 {
		t.Error(rule, e, l, b.Cycles())
	}
	if x, e := b.Read(32782); x != (api.Byte{V: 255}) || e != api.OK {
		t.Error(x, e)
	}
}
