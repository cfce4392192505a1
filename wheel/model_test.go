package wheel_test

import (
	"math"
	"testing"

	"cochineal/api"
	"cochineal/wheel"
)

// model is a wheel by the chapter's words, written otherwise: of whole numbers, step by step.
type model struct {
	x, y  int
	looks int // how many quarters from the right
	last  byte
}

// step goes one step, and comes back on the other side behind the last place.
func (m *model) step() {
	switch m.looks {
	case 0:
		m.x = onward(m.x)
	case 1:
		m.y = onward(m.y)
	case 2:
		m.x = backward(m.x)
	case 3:
		m.y = backward(m.y)
	}
}

func onward(n int) int {
	if n == 127 {
		return -128
	}
	return n + 1
}

func backward(n int) int {
	if n == -128 {
		return 127
	}
	return n - 1
}

// write is Write, by the chapter's words.
func (m *model) write(reg int, b api.Byte) (int, api.Errno) {
	if reg != 0 && reg != 1 && reg != 2 {
		return 0, api.ErrRange
	}
	if b.T > 0 {
		return 4, api.ErrAlarm
	}
	if reg > 0 {
		return 0, api.OK
	}
	m.last = b.V
	n := int(b.V)
	for range n & 3 {
		m.looks++
		if m.looks == 4 {
			m.looks = 0
		}
	}
	for range n >> 2 {
		m.step()
	}
	return 0, api.OK
}

// read is Read, by the chapter's words.
func (m *model) read(reg int) (api.Byte, api.Errno) {
	n := 0
	switch reg {
	default:
		return api.Byte{}, api.ErrRange
	case 0:
		n = int(m.last)
	case 1:
		n = m.x
	case 2:
		n = m.y
	}
	if n < 0 {
		n += 256
	}
	return api.Byte{V: byte(n)}, api.OK
}

func (m *model) at() complex128 { return complex(float64(m.x), float64(m.y)) }

func (m *model) way() complex128 {
	switch m.looks {
	case 0:
		return 1
	case 1:
		return 1i
	case 2:
		return -1
	}
	return complex(0, -1)
}

// isPlain tells whether no part of a number is a 0 below 0.
func isPlain(z complex128) bool {
	for _, part := range []float64{real(z), imag(z)} {
		if part == 0 && math.Signbit(part) {
			return false
		}
	}
	return true
}

// agree tells whether a wheel is as a model tells.
func agree(t *testing.T, w *wheel.Wheel, m *model) {
	t.Helper()
	if w.At() != m.at() || !isPlain(w.At()) {
		t.Fatalf("At: %v, not %v", w.At(), m.at())
	}
	if w.Way() != m.way() || !isPlain(w.Way()) {
		t.Fatalf("Way: %v, not %v", w.Way(), m.way())
	}
	for reg := range 3 {
		readBoth(t, w, m, reg)
	}
}

// readBoth reads of a wheel and of its model.
func readBoth(t *testing.T, w *wheel.Wheel, m *model, reg int) {
	t.Helper()
	b, e := w.Read(reg)
	if want, f := m.read(reg); b != want || e != f {
		t.Fatalf("Read(%d): %v, %v, not %v, %v", reg, b, e, want, f)
	}
}

// writeBoth writes to a wheel and to its model.
func writeBoth(t *testing.T, w *wheel.Wheel, m *model, reg int, b api.Byte) {
	t.Helper()
	rule, e := w.Write(reg, b)
	if want, f := m.write(reg, b); rule != want || e != f {
		t.Fatalf("Write(%d, %v): %d, %v, not %d, %v", reg, b, rule, e, want, f)
	}
}

// row is a row of numbers that looks without order, the same one each time.
type row uint64

func (r *row) next(below int) int {
	*r = *r*6364136223846793005 + 1442695040888963407
	return int(uint64(*r) >> 16 % uint64(below))
}

// tainted is a byte, often one that is not secret.
func (r *row) tainted() api.Byte {
	return api.Byte{V: byte(r.next(256)), T: []byte{0, 0, 0, 0, 1, 128, 255, byte(r.next(256))}[r.next(8)]}
}

// reg is a register, most often the one that turns, now and then none.
func (r *row) reg() int {
	if r.next(20) == 0 {
		return none[r.next(len(none))]
	}
	return []int{0, 0, 0, 1, 2}[r.next(5)]
}
