package ports_test

import (
	"math"
	"slices"
	"testing"

	"cochineal/api"
	"cochineal/ports"
)

// none are numbers of which no register is.
var none = []int{math.MinInt, -1 << 32, -256, -5, -2, -1, 5, 6, 7, 8, 9, 16, 255, 256, 257, 32772, 1 << 32, 1<<32 + 2, math.MaxInt}

// outs are the registers at which something goes out, or is told.
var outs = []int{ports.PublicOut, ports.SecretOut, ports.Declassify}

// made is New of what is not too long.
func made(t *testing.T, public, secret []byte) *ports.Ports {
	t.Helper()
	p, e := ports.New(public, secret)
	if p == nil || e != api.OK {
		t.Fatalf("New of %d and %d bytes: %v, %v", len(public), len(secret), p, e)
	}
	return p
}

// reads looks what Read tells.
func reads(t *testing.T, p *ports.Ports, reg int, want api.Byte) {
	t.Helper()
	if b, e := p.Read(reg); b != want || e != api.OK {
		t.Fatalf("Read(%d): %v, %v, not %v", reg, b, e, want)
	}
}

// writes looks what Write tells.
func writes(t *testing.T, p *ports.Ports, d deed, rule int, e api.Errno) {
	t.Helper()
	if r, f := p.Write(d.reg, d.b, d.cycle); r != rule || f != e {
		t.Fatalf("Write(%d, %v, %d): %d, %v, not %d, %v", d.reg, d.b, d.cycle, r, f, rule, e)
	}
}

// byAll is a row of bytes, all kinds of them.
func byAll(n int) []byte {
	l := make([]byte, n)
	for i := range l {
		l[i] = byte(i*7 + i>>8)
	}
	return l
}

// P11.1
func TestRegistersAreNumbered(t *testing.T) {
	if l := [...]int{ports.PublicIn, ports.SecretIn, ports.PublicOut, ports.SecretOut, ports.Declassify}; l != [...]int{0, 1, 2, 3, 4} || ports.MaxOut != 4096 {
		t.Error(l, ports.MaxOut)
	}
}

// P11.1
func TestNewOfManyBytes(t *testing.T) {
	for _, n := range []int{0, 1, 255, 256, 4096, 4097, 65535, 65536} {
		for _, l := range [][2]int{{n, 0}, {0, n}, {n, n}, {n, 65536}, {65536, n}} {
			p := made(t, byAll(l[0]), byAll(l[1]))
			if p.Left(ports.PublicIn) != l[0] || p.Left(ports.SecretIn) != l[1] {
				t.Fatal(l, p.Left(ports.PublicIn), p.Left(ports.SecretIn))
			}
		}
	}
	for _, n := range []int{65537, 65538, 131072, 1 << 20} {
		for _, l := range [][2]int{{n, 0}, {0, n}, {n, 1}, {1, n}, {n, 65536}, {65536, n}, {n, n}} {
			if p, e := ports.New(byAll(l[0]), byAll(l[1])); p != nil || e != api.ErrLong {
				t.Fatal(l, p != nil, e)
			}
		}
	}
}

// P11.1
func TestNothingWentOutAtFirst(t *testing.T) {
	for _, l := range [][2][]byte{{nil, nil}, {{}, {}}, {{1, 2}, {3}}, {byAll(65536), byAll(65536)}} {
		p := made(t, l[0], l[1])
		agree(t, p, modelOf(l[0], l[1]))
		for _, reg := range outs {
			reads(t, p, reg, api.Byte{})
		}
	}
}

// P11.1
func TestWhatComesIn(t *testing.T) {
	for _, n := range []int{0, 1, 2, 300, 65535, 65536} {
		public, secret := byAll(n), byAll(n)
		slices.Reverse(secret)
		p := made(t, public, secret)
		for i := range n {
			reads(t, p, ports.PublicIn, api.Byte{V: public[i]})
			if p.Left(ports.PublicIn) != n-i-1 || p.Left(ports.SecretIn) != n {
				t.Fatal(n, i, p.Left(ports.PublicIn), p.Left(ports.SecretIn))
			}
		}
		for i := range n {
			reads(t, p, ports.SecretIn, api.Byte{V: secret[i], T: 255})
			if p.Left(ports.PublicIn) != 0 || p.Left(ports.SecretIn) != n-i-1 {
				t.Fatal(n, i, p.Left(ports.PublicIn), p.Left(ports.SecretIn))
			}
		}
		for range 300 {
			reads(t, p, ports.PublicIn, api.Byte{})
			reads(t, p, ports.SecretIn, api.Byte{T: 255})
		}
		if p.Left(ports.PublicIn) != 0 || p.Left(ports.SecretIn) != 0 {
			t.Fatal(n, p.Left(ports.PublicIn), p.Left(ports.SecretIn))
		}
	}
}

// P11.1
func TestWhatComesInComesOneBesideTheOther(t *testing.T) {
	p := made(t, []byte{1, 2, 3}, []byte{11, 12})
	reads(t, p, ports.SecretIn, api.Byte{V: 11, T: 255})
	reads(t, p, ports.PublicIn, api.Byte{V: 1})
	reads(t, p, ports.PublicIn, api.Byte{V: 2})
	reads(t, p, ports.SecretIn, api.Byte{V: 12, T: 255})
	reads(t, p, ports.SecretIn, api.Byte{T: 255})
	reads(t, p, ports.PublicIn, api.Byte{V: 3})
	reads(t, p, ports.PublicIn, api.Byte{})
}

// P11.1
func TestLeftOfOtherRegisters(t *testing.T) {
	p := made(t, byAll(5), byAll(6))
	for _, reg := range outs {
		writes(t, p, deed{reg, api.Byte{V: 1}, 0}, 0, api.OK)
	}
	for _, reg := range append(slices.Clone(outs), none...) {
		if n := p.Left(reg); n != 0 {
			t.Error(reg, n)
		}
	}
}

// P11.1, P11.2
func TestOfNoRegister(t *testing.T) {
	p, m := made(t, byAll(5), byAll(6)), modelOf(byAll(5), byAll(6))
	for _, reg := range outs {
		writeBoth(t, p, m, deed{reg, api.Byte{V: byte(reg)}, reg})
	}
	l := slices.Clone(none)
	for n := range 70000 {
		l = append(l, -1-n, 5+n)
	}
	for _, reg := range l {
		for _, b := range []api.Byte{{}, {V: 7}, {V: 7, T: 1}, {T: 255}} {
			writes(t, p, deed{reg, b, 3}, 0, api.ErrRange)
		}
		if b, e := p.Read(reg); b != (api.Byte{}) || e != api.ErrRange {
			t.Fatal(reg, b, e)
		}
		if n := p.Left(reg); n != 0 {
			t.Fatal(reg, n)
		}
	}
	agreeToTheEnd(t, p, m)
}

// P11.2
func TestNoSecretGoesWhereAllMayRead(t *testing.T) {
	p, m := made(t, byAll(5), byAll(6)), modelOf(byAll(5), byAll(6))
	for _, reg := range outs {
		writeBoth(t, p, m, deed{reg, api.Byte{V: 77}, 5})
	}
	for _, reg := range []int{ports.PublicIn, ports.SecretIn, ports.PublicOut} {
		for secret := 1; secret < 256; secret++ {
			for _, v := range []byte{0, 1, 128, 255, byte(secret), ^byte(secret)} {
				writes(t, p, deed{reg, api.Byte{V: v, T: byte(secret)}, secret}, api.RuleSink, api.ErrAlarm)
			}
		}
		agreeToTheEnd(t, p, m)
	}
}

// P11.2
func TestNothingElseIsDoneAtAnInput(t *testing.T) {
	p, m := made(t, byAll(5), byAll(6)), modelOf(byAll(5), byAll(6))
	for v := range 256 {
		writes(t, p, deed{ports.PublicIn, api.Byte{V: byte(v)}, v}, 0, api.OK)
		writes(t, p, deed{ports.SecretIn, api.Byte{V: byte(v)}, v}, 0, api.OK)
	}
	// Where nothing is full, nor counts how often that was done.
	for range 5000 {
		writes(t, p, deed{ports.PublicIn, api.Byte{V: 1}, 1}, 0, api.OK)
		writes(t, p, deed{ports.SecretIn, api.Byte{V: 1}, 1}, 0, api.OK)
	}
	agreeToTheEnd(t, p, m)
}

// P11.1, P11.2, P11.3
func TestPublicOut(t *testing.T) {
	p, m := made(t, nil, nil), modelOf(nil, nil)
	for v := range 256 {
		writeBoth(t, p, m, deed{ports.PublicOut, api.Byte{V: byte(v)}, 9})
		reads(t, p, ports.PublicOut, api.Byte{V: byte(v)})
		reads(t, p, ports.PublicOut, api.Byte{V: byte(v)})
		reads(t, p, ports.SecretOut, api.Byte{})
		reads(t, p, ports.Declassify, api.Byte{})
	}
	agree(t, p, m)
}

// P11.1, P11.2, P11.3
func TestSecretOut(t *testing.T) {
	for secret := range 256 {
		p, m := made(t, nil, nil), modelOf(nil, nil)
		for v := range 256 {
			b := api.Byte{V: byte(v), T: byte(secret)}
			writeBoth(t, p, m, deed{ports.SecretOut, b, 9})
			reads(t, p, ports.SecretOut, b)
			reads(t, p, ports.PublicOut, api.Byte{})
			reads(t, p, ports.Declassify, api.Byte{})
		}
		agree(t, p, m)
	}
}

// P11.1, P11.2, P11.3
func TestDeclassify(t *testing.T) {
	cycles := []int{0, 1, 2, 255, 65536, 1 << 40, math.MaxInt, -1, math.MinInt}
	for secret := range 256 {
		p, m := made(t, nil, nil), modelOf(nil, nil)
		for v := range 256 {
			writeBoth(t, p, m, deed{ports.Declassify, api.Byte{V: byte(v), T: byte(secret)}, cycles[v%len(cycles)]})
			reads(t, p, ports.Declassify, api.Byte{V: byte(v)})
			reads(t, p, ports.PublicOut, api.Byte{})
			reads(t, p, ports.SecretOut, api.Byte{})
		}
		agree(t, p, m)
	}
}

// filled is ports at which nothing more may go out at a register.
func filled(t *testing.T, reg int) *ports.Ports {
	t.Helper()
	p := made(t, byAll(2), byAll(3))
	for i := range 4096 {
		writes(t, p, deed{reg, api.Byte{V: byte(i)}, i}, 0, api.OK)
	}
	return p
}

// P11.2
func TestFull(t *testing.T) {
	for _, reg := range outs {
		p := filled(t, reg)
		was := p.Clone()
		for i := range 300 {
			writes(t, p, deed{reg, api.Byte{V: byte(i)}, i}, 0, api.ErrFull)
		}
		reads(t, p, reg, api.Byte{V: 255})
		if reg != ports.PublicOut {
			writes(t, p, deed{reg, api.Byte{V: 6, T: 1}, 1}, 0, api.ErrFull)
		}
		if !ports.Low(p, was) || len(p.Out())+len(p.Kept())+len(p.Log()) != 4096 {
			t.Error(reg, len(p.Out()), len(p.Kept()), len(p.Log()))
		}
		// What is full at one register is nothing to the others.
		for _, other := range outs {
			if other != reg {
				writes(t, p, deed{other, api.Byte{V: 8}, 1}, 0, api.OK)
				reads(t, p, other, api.Byte{V: 8})
			}
		}
		for in := range 2 {
			writes(t, p, deed{in, api.Byte{V: 8}, 1}, 0, api.OK)
		}
		reads(t, p, reg, api.Byte{V: 255})
	}
}

// P11.2, R1: the alarm is named ahead of what is full.
func TestASecretWhereItIsFull(t *testing.T) {
	p := filled(t, ports.PublicOut)
	was := p.Clone()
	writes(t, p, deed{ports.PublicOut, api.Byte{V: 6, T: 128}, 1}, api.RuleSink, api.ErrAlarm)
	writes(t, p, deed{ports.PublicOut, api.Byte{V: 6}, 1}, 0, api.ErrFull)
	if !ports.Low(p, was) {
		t.Error("turned")
	}
}

// P11.3
func TestAllThatWentOutIsTold(t *testing.T) {
	p, m := made(t, nil, nil), modelOf(nil, nil)
	for i := range 4096 {
		v := byte(i ^ i>>8)
		for _, d := range []deed{
			{ports.PublicOut, api.Byte{V: v}, i}, {ports.SecretOut, api.Byte{V: ^v, T: byte(i)}, i}, {ports.Declassify, api.Byte{V: v + 3, T: byte(i)}, i * 5},
		} {
			if rule, e := p.Write(d.reg, d.b, d.cycle); rule != 0 || e != api.OK {
				t.Fatal(i, rule, e)
			}
			m.deeds = append(m.deeds, d)
		}
	}
	agree(t, p, m)
	for _, d := range m.deeds[:3] {
		writeBoth(t, p, m, d)
	}
	agreeToTheEnd(t, p, m)
}

// R2
func TestWhatIsHandedInIsNotTurnedNorKept(t *testing.T) {
	public, secret := []byte{1, 2, 3, 4, 5}, []byte{6, 7, 8, 9, 10}
	p := made(t, public[:2], secret[:3])
	m := modelOf([]byte{1, 2}, []byte{6, 7, 8})
	agreeToTheEnd(t, p, m)
	for _, reg := range outs {
		writeBoth(t, p, m, deed{reg, api.Byte{V: 200}, 0})
	}
	if !slices.Equal(public, []byte{1, 2, 3, 4, 5}) || !slices.Equal(secret, []byte{6, 7, 8, 9, 10}) {
		t.Error(public, secret)
	}
	for i := range 5 {
		public[i], secret[i] = 99, 99
	}
	agreeToTheEnd(t, p, m)
}

// R2
func TestWhatIsAnsweredIsTheCallers(t *testing.T) {
	p, m := made(t, nil, nil), modelOf(nil, nil)
	for i := range 5 {
		for _, reg := range outs {
			writeBoth(t, p, m, deed{reg, api.Byte{V: byte(i)}, i})
		}
	}
	out, kept, log := p.Out(), p.Kept(), p.Log()
	for i := range out {
		out[i], kept[i], log[i] = 99, api.Byte{V: 99}, ports.Entry{Cycle: 99, V: 99}
	}
	out, kept, log = append(out, 98), append(kept, api.Byte{V: 98}), append(log, ports.Entry{Cycle: 98, V: 98})
	agreeToTheEnd(t, p, m)
	for _, reg := range outs {
		writeBoth(t, p, m, deed{reg, api.Byte{V: 97}, 97})
	}
	agreeToTheEnd(t, p, m)
	if out[5] != 98 || kept[5] != (api.Byte{V: 98}) || log[5] != (ports.Entry{Cycle: 98, V: 98}) {
		t.Error(out, kept, log)
	}
}

// P11.3
func TestClone(t *testing.T) {
	p, m := made(t, byAll(9), byAll(8)), modelOf(byAll(9), byAll(8))
	for i := range 5 {
		for _, reg := range outs {
			writeBoth(t, p, m, deed{reg, api.Byte{V: byte(i)}, i})
		}
		readBoth(t, p, m, i%2)
	}
	q, n := p.Clone(), m.clone()
	if p == q || !ports.Low(p, q) {
		t.Fatal("no clone")
	}
	for reg := range 5 {
		writeBoth(t, p, m, deed{reg, api.Byte{V: 55}, 55})
		agreeToTheEnd(t, q, n)
		writeBoth(t, q, n, deed{reg, api.Byte{V: 66}, 66})
		agreeToTheEnd(t, p, m)
		readBoth(t, q, n, reg)
		agreeToTheEnd(t, p, m)
		readBoth(t, p, m, reg)
		agreeToTheEnd(t, q, n)
	}
}

// P11.3
func TestLowOfEachDifference(t *testing.T) {
	for i, c := range []struct {
		public, secret []byte
		do             []deed
		want           bool
	}{
		{[]byte{1, 2}, []byte{3, 4}, nil, true},
		{[]byte{1, 2}, []byte{9, 9}, nil, true},
		{[]byte{1, 3}, []byte{3, 4}, nil, false},
		{[]byte{0, 2}, []byte{3, 4}, nil, false},
		{[]byte{1}, []byte{3, 4}, nil, false},
		{[]byte{1, 2, 0}, []byte{3, 4}, nil, false},
		{[]byte{1, 2}, []byte{3}, nil, false},
		{[]byte{1, 2}, []byte{3, 4, 0}, nil, false},
		{[]byte{1, 2}, nil, nil, false},
		{nil, []byte{3, 4}, nil, false},
		{[]byte{1, 2}, []byte{3, 4}, []deed{{ports.PublicOut, api.Byte{}, 0}}, false},
		{[]byte{1, 2}, []byte{3, 4}, []deed{{ports.SecretOut, api.Byte{}, 0}}, false},
		{[]byte{1, 2}, []byte{3, 4}, []deed{{ports.SecretOut, api.Byte{T: 255}, 0}}, false},
		{[]byte{1, 2}, []byte{3, 4}, []deed{{ports.Declassify, api.Byte{}, 0}}, false},
		{[]byte{1, 2}, []byte{3, 4}, []deed{{ports.PublicIn, api.Byte{V: 1}, 0}, {ports.SecretIn, api.Byte{V: 1}, 0}}, true},
		{[]byte{1, 2}, []byte{3, 4}, []deed{{ports.PublicOut, api.Byte{T: 1}, 0}}, true},
	} {
		p, q := made(t, []byte{1, 2}, []byte{3, 4}), made(t, c.public, c.secret)
		for _, d := range c.do {
			q.Write(d.reg, d.b, d.cycle)
		}
		if ports.Low(p, q) != c.want || ports.Low(q, p) != c.want {
			t.Error(i)
		}
	}
}

// P11.3
func TestLowOfWhatIsStillToComeIn(t *testing.T) {
	p, q := made(t, []byte{1, 5, 6}, []byte{1, 2}), made(t, []byte{2, 9, 5, 6}, []byte{3, 4, 5})
	for i, reg := range []int{ports.PublicIn, ports.PublicIn, ports.SecretIn} {
		if ports.Low(p, q) {
			t.Error(i)
		}
		q.Read(reg)
	}
	if ports.Low(p, q) {
		t.Error("one has read a byte less")
	}
	if p.Read(ports.PublicIn); !ports.Low(p, q) {
		t.Error("what was read tells")
	}
	// Behind the end nothing is left, however often that is read.
	r := made(t, nil, nil)
	for range 5 {
		q.Read(ports.PublicIn)
		q.Read(ports.SecretIn)
	}
	if !ports.Low(q, r) || ports.Low(p, q) {
		t.Error("behind the end")
	}
}

// P11.3
func TestLowOfWhatWentOut(t *testing.T) {
	for reg := 2; reg < 5; reg++ {
		for _, n := range []int{0, 1, 17, 4095} {
			for bit := range 8 {
				p := made(t, nil, nil)
				for i := range n {
					p.Write(reg, api.Byte{V: byte(i)}, i)
				}
				q := p.Clone()
				writes(t, p, deed{reg, api.Byte{V: 165}, n}, 0, api.OK)
				writes(t, q, deed{reg, api.Byte{V: 165 ^ 1<<bit}, n}, 0, api.OK)
				if n < 4095 {
					// The last ones are the same: that is not all.
					p.Write(reg, api.Byte{}, n)
					q.Write(reg, api.Byte{}, n)
				}
				if ports.Low(p, q) {
					t.Fatal(reg, n, bit)
				}
			}
		}
	}
}

// P11.3
func TestLowOfCycles(t *testing.T) {
	for _, reg := range outs {
		p, q := made(t, nil, nil), made(t, nil, nil)
		p.Write(reg, api.Byte{V: 4}, 5)
		q.Write(reg, api.Byte{V: 4}, 6)
		// Of entries alone a cycle is told.
		if ports.Low(p, q) != (reg != ports.Declassify) {
			t.Error(reg)
		}
	}
}

// P11.3
func TestLowOfSecretsThatWentOut(t *testing.T) {
	values := []byte{0, 1, 2, 15, 16, 127, 128, 240, 254, 255}
	for _, s := range values {
		for _, u := range values {
			for _, v := range values {
				for _, w := range values {
					p, q := made(t, nil, nil), made(t, nil, nil)
					a, b := api.Byte{V: v, T: s}, api.Byte{V: w, T: u}
					p.Write(ports.SecretOut, a, 0)
					q.Write(ports.SecretOut, b, 0)
					if ports.Low(p, q) != alike(a, b) {
						t.Fatal(a, b)
					}
				}
			}
		}
	}
	p, q := made(t, nil, nil), made(t, nil, nil)
	p.Write(ports.Declassify, api.Byte{V: 4, T: 255}, 5)
	q.Write(ports.Declassify, api.Byte{V: 5, T: 255}, 5)
	if ports.Low(p, q) {
		t.Error("what is told is for all")
	}
}

// P11.1, P11.2, P11.3
func TestOfNil(t *testing.T) {
	var p *ports.Ports
	for _, reg := range append([]int{0, 1, 2, 3, 4}, none...) {
		if b, e := p.Read(reg); b != (api.Byte{}) || e != api.ErrNil {
			t.Error("Read", reg, b, e)
		}
		writes(t, p, deed{reg, api.Byte{V: 7}, 1}, 0, api.ErrNil)
		writes(t, p, deed{reg, api.Byte{V: 7, T: 1}, 1}, 0, api.ErrNil)
		if n := p.Left(reg); n != 0 {
			t.Error("Left", reg, n)
		}
	}
	if len(p.Out())+len(p.Kept())+len(p.Log()) != 0 || p.Clone() != nil {
		t.Error(p.Out(), p.Kept(), p.Log(), p.Clone())
	}
	if q := made(t, nil, nil); !ports.Low(p, nil) || ports.Low(p, q) || ports.Low(q, p) {
		t.Error("Low")
	}
}

// P11.1, P11.2, P11.3 (the chapter's example)
func TestExample(t *testing.T) {
	p := made(t, []byte{5}, nil)
	reads(t, p, 0, api.Byte{V: 5})
	reads(t, p, 0, api.Byte{})
	writes(t, p, deed{4, api.Byte{V: 7, T: 255}, 12}, 0, api.OK)
	reads(t, p, 4, api.Byte{V: 7})
	if l := p.Log(); !slices.Equal(l, []ports.Entry{{Cycle: 12, V: 7}}) {
		t.Error(l)
	}
}
