package ports_test

import (
	"math"
	"slices"
	"testing"

	"cochineal/api"
	"cochineal/ports"
)

// deed is a Write that was taken.
type deed struct {
	reg   int
	b     api.Byte
	cycle int
}

// model is ports by the chapter's words, written otherwise: it keeps all that was ever done.
type model struct {
	comes [2][]byte // what comes in, public and secret
	reads [2]int    // how often it was read
	deeds []deed
}

func modelOf(public, secret []byte) *model {
	return &model{comes: [2][]byte{slices.Clone(public), slices.Clone(secret)}}
}

func (m *model) clone() *model {
	n := modelOf(m.comes[0], m.comes[1])
	n.reads, n.deeds = m.reads, slices.Clone(m.deeds)
	return n
}

// at is what was written, and taken, at a register.
func (m *model) at(reg int) []deed {
	var l []deed
	for _, d := range m.deeds {
		if d.reg == reg {
			l = append(l, d)
		}
	}
	return l
}

func (m *model) left(reg int) int {
	if reg != 0 && reg != 1 {
		return 0
	}
	return max(0, len(m.comes[reg])-m.reads[reg])
}

func (m *model) read(reg int) (api.Byte, api.Errno) {
	var b api.Byte
	switch reg {
	default:
		return b, api.ErrRange
	case 0, 1:
		if m.left(reg) > 0 {
			b.V = m.comes[reg][m.reads[reg]]
		}
		m.reads[reg]++
		b.T = byte(reg * 255)
	case 2, 3, 4:
		if l := m.at(reg); len(l) > 0 {
			b = l[len(l)-1].b
		}
		if reg != 3 {
			b.T = 0
		}
	}
	return b, api.OK
}

func (m *model) write(reg int, b api.Byte, cycle int) (int, api.Errno) {
	if reg < 0 || reg > 4 {
		return 0, api.ErrRange
	}
	if reg < 3 && b.T > 0 {
		return 4, api.ErrAlarm
	}
	if reg < 2 {
		return 0, api.OK
	}
	if len(m.at(reg)) == 4096 {
		return 0, api.ErrFull
	}
	m.deeds = append(m.deeds, deed{reg, b, cycle})
	return 0, api.OK
}

func (m *model) out() []byte {
	var l []byte
	for _, d := range m.at(2) {
		l = append(l, d.b.V)
	}
	return l
}

func (m *model) kept() []api.Byte {
	var l []api.Byte
	for _, d := range m.at(3) {
		l = append(l, d.b)
	}
	return l
}

func (m *model) log() []ports.Entry {
	var l []ports.Entry
	for _, d := range m.at(4) {
		l = append(l, ports.Entry{Cycle: d.cycle, V: d.b.V})
	}
	return l
}

// alike tells, bit by bit, whether two bytes are the same but for secrets.
func alike(a, b api.Byte) bool {
	for i := range 8 {
		bit := byte(1) << i
		if a.T&bit != b.T&bit || a.T&bit == 0 && a.V&bit != b.V&bit {
			return false
		}
	}
	return true
}

// low is Low of two models.
func low(m, n *model) bool {
	if m.left(0) != n.left(0) || m.left(1) != n.left(1) || len(m.kept()) != len(n.kept()) {
		return false
	}
	for i := range m.left(0) {
		if m.comes[0][m.reads[0]+i] != n.comes[0][n.reads[0]+i] {
			return false
		}
	}
	for i, b := range m.kept() {
		if !alike(b, n.kept()[i]) {
			return false
		}
	}
	return slices.Equal(m.out(), n.out()) && slices.Equal(m.log(), n.log())
}

// agree tells whether ports are as a model tells; nothing of them turns by it.
func agree(t *testing.T, p *ports.Ports, m *model) {
	t.Helper()
	for reg := -2; reg < 8; reg++ {
		if p.Left(reg) != m.left(reg) {
			t.Fatalf("Left(%d): %d, not %d", reg, p.Left(reg), m.left(reg))
		}
	}
	if !slices.Equal(p.Out(), m.out()) {
		t.Fatalf("Out: %v, not %v", p.Out(), m.out())
	}
	if !slices.Equal(p.Kept(), m.kept()) {
		t.Fatalf("Kept: %v, not %v", p.Kept(), m.kept())
	}
	if !slices.Equal(p.Log(), m.log()) {
		t.Fatalf("Log: %v, not %v", p.Log(), m.log())
	}
}

// agreeToTheEnd tells whether all that can be read of clones agrees, up to behind the end.
func agreeToTheEnd(t *testing.T, p *ports.Ports, m *model) {
	t.Helper()
	p, m = p.Clone(), m.clone()
	agree(t, p, m)
	for reg := range 5 {
		for range m.left(reg) + 2 {
			readBoth(t, p, m, reg)
		}
	}
	agree(t, p, m)
}

// readBoth reads of ports and of their model.
func readBoth(t *testing.T, p *ports.Ports, m *model, reg int) {
	t.Helper()
	b, e := p.Read(reg)
	if want, f := m.read(reg); b != want || e != f {
		t.Fatalf("Read(%d): %v, %v, not %v, %v", reg, b, e, want, f)
	}
}

// writeBoth writes to ports and to their model.
func writeBoth(t *testing.T, p *ports.Ports, m *model, d deed) {
	t.Helper()
	rule, e := p.Write(d.reg, d.b, d.cycle)
	if want, f := m.write(d.reg, d.b, d.cycle); rule != want || e != f {
		t.Fatalf("Write(%d, %v, %d): %d, %v, not %d, %v", d.reg, d.b, d.cycle, rule, e, want, f)
	}
}

// row is a row of numbers that looks without order, the same one each time.
type row uint64

func (r *row) next(below int) int {
	*r = *r*6364136223846793005 + 1442695040888963407
	return int(uint64(*r) >> 16 % uint64(below))
}

// bytes are some, of few kinds, so that there are equal ones.
func (r *row) bytes(top int) []byte {
	l := make([]byte, r.next(top+1))
	for i := range l {
		l[i] = byte(r.next(3) * 127)
	}
	return l
}

// tainted is a byte, often one that is not secret.
func (r *row) tainted() api.Byte {
	return api.Byte{V: byte(r.next(256)), T: []byte{0, 0, 0, 1, 128, 15, 255, byte(r.next(256))}[r.next(8)]}
}

// reg is a register, now and then none.
func (r *row) reg() int {
	if r.next(20) == 0 {
		return none[r.next(len(none))]
	}
	return r.next(5)
}

// deed is some Write.
func (r *row) deed() deed {
	cycle := []int{r.next(1000), r.next(1 << 40), -1, 0, math.MinInt, math.MaxInt}[r.next(6)]
	return deed{r.reg(), r.tainted(), cycle}
}

// P11.1, P11.2, P11.3
func TestRowsOfCallsAreAsOfTheModel(t *testing.T) {
	r := row(11)
	for range 400 {
		public, secret := r.bytes(30), r.bytes(30)
		p, m := made(t, public, secret), modelOf(public, secret)
		for range r.next(120) {
			switch r.next(8) {
			case 0, 1, 2, 3:
				writeBoth(t, p, m, r.deed())
			case 4, 5, 6:
				readBoth(t, p, m, r.reg())
			default:
				was := p
				p = p.Clone()
				// What is done with the one that is left behind is nothing to its clone.
				was.Read(r.reg())
				was.Write(ports.Declassify, api.Byte{V: 99}, 99)
				was.Write(ports.PublicOut, api.Byte{V: 99}, 99)
				was.Write(ports.SecretOut, api.Byte{V: 99}, 99)
			}
			agree(t, p, m)
		}
		agreeToTheEnd(t, p, m)
	}
}

// P11.3
func TestLowIsAsOfTheModel(t *testing.T) {
	r := row(12)
	told := [2]int{}
	for range 4000 {
		public, secret := r.bytes(3), r.bytes(3)
		p, m := made(t, public, secret), modelOf(public, secret)
		if r.next(8) == 0 {
			public = r.bytes(3)
		}
		if r.next(4) == 0 {
			secret = r.bytes(3)
		}
		q, n := made(t, public, secret), modelOf(public, secret)
		for range r.next(10) {
			d, reg := r.deed(), r.reg()
			writeBoth(t, p, m, d)
			readBoth(t, p, m, reg)
			switch r.next(24) {
			case 0:
				d = r.deed()
			case 1:
				d.b.V ^= 1 << r.next(8)
			case 2:
				d.b.T ^= 1 << r.next(8)
			case 3:
				d.cycle++
			case 4:
				reg = r.reg()
			}
			writeBoth(t, q, n, d)
			readBoth(t, q, n, reg)
			want := low(m, n)
			if ports.Low(p, q) != want || ports.Low(q, p) != want {
				t.Fatalf("Low of %v and %v: not %v", m, n, want)
			}
			if want {
				told[1]++
			} else {
				told[0]++
			}
		}
	}
	if min(told[0], told[1]) < 2000 {
		t.Error("too few of one kind:", told)
	}
}

// P11.4
func TestWhatIsLowStaysSo(t *testing.T) {
	r := row(13)
	for range 1500 {
		public, secret := r.bytes(6), r.bytes(6)
		p := made(t, public, secret)
		for i := range secret {
			secret[i] ^= byte(r.next(256))
		}
		q := made(t, public, secret)
		for range r.next(60) {
			d, reg := r.deed(), r.reg()
			if d.reg == ports.Declassify {
				d.b.T = 0
			}
			x := api.Byte{V: d.b.V ^ d.b.T&byte(r.next(256)), T: d.b.T}
			rule, e := p.Write(d.reg, d.b, d.cycle)
			if other, f := q.Write(d.reg, x, d.cycle); rule != other || e != f {
				t.Fatalf("Write(%d) of %v and %v: %d, %v, and %d, %v", d.reg, d.b, x, rule, e, other, f)
			}
			b, e := p.Read(reg)
			if c, f := q.Read(reg); !alike(b, c) || e != f {
				t.Fatalf("Read(%d): %v, %v, and %v, %v", reg, b, e, c, f)
			}
			if r.next(10) == 0 {
				q = q.Clone()
			}
			if !ports.Low(p, q) {
				t.Fatalf("low no longer behind Write(%d) of %v and %v, and Read(%d)", d.reg, d.b, x, reg)
			}
		}
	}
}

// P11.4
func TestWhatIsForAllIsNeverSecret(t *testing.T) {
	r := row(14)
	for range 300 {
		p := made(t, r.bytes(9), r.bytes(9))
		for range 60 {
			d := r.deed()
			p.Write(d.reg, d.b, d.cycle)
			for _, reg := range []int{ports.PublicIn, ports.PublicOut, ports.Declassify} {
				if b, e := p.Read(reg); b.T != 0 || e != api.OK {
					t.Fatalf("Read(%d) behind Write(%d) of %v: %v, %v", reg, d.reg, d.b, b, e)
				}
			}
		}
	}
}
