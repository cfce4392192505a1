package wheel_test

import (
	"math"
	"testing"

	"cochineal/api"
	"cochineal/wheel"
)

// none are numbers of which no register is.
var none = []int{math.MinInt, -1 << 32, -256, -254, -3, -2, -1, 3, 4, 5, 7, 8, 255, 256, 257, 32777, 1 << 32, 1<<32 + 2, math.MaxInt}

// parts are some that places have: the ends, the middle, and those beside.
var parts = []int{-128, -127, -126, -66, -65, -64, -63, -2, -1, 0, 1, 2, 62, 63, 64, 65, 125, 126, 127}

// put writes a byte into register 0 that is not secret.
func put(t *testing.T, w *wheel.Wheel, v int) {
	t.Helper()
	if rule, e := w.Write(wheel.Turn, api.Byte{V: byte(v)}); rule != 0 || e != api.OK {
		t.Fatalf("Write(0, %d): %d, %v", v, rule, e)
	}
}

// putBoth writes a byte into register 0 of a wheel and of its model.
func putBoth(t *testing.T, w *wheel.Wheel, m *model, v int) {
	t.Helper()
	writeBoth(t, w, m, wheel.Turn, api.Byte{V: byte(v)})
}

// roll lets both go so many steps, from 0 on, the way they look.
func roll(t *testing.T, w *wheel.Wheel, m *model, n int) {
	t.Helper()
	for ; n > 63; n -= 63 {
		putBoth(t, w, m, 63*4)
	}
	putBoth(t, w, m, n*4)
}

// made is a wheel, and its model, of a place and a way.
func made(t *testing.T, x, y, looks int) (*wheel.Wheel, *model) {
	t.Helper()
	w, m := wheel.New(), &model{}
	roll(t, w, m, x&255)
	putBoth(t, w, m, 1)
	roll(t, w, m, y&255)
	putBoth(t, w, m, (looks+3)&3)
	if m.x != x || m.y != y || m.looks != looks {
		t.Fatal(x, y, looks, *m)
	}
	agree(t, w, m)
	return w, m
}

// each calls look with wheels of some places, and each way.
func each(t *testing.T, look func(w *wheel.Wheel, m *model)) {
	t.Helper()
	for _, x := range parts {
		for _, y := range parts {
			for looks := range 4 {
				w, m := made(t, x, y, looks)
				look(w, m)
			}
		}
	}
}

// P12.1, P12.2
func TestRegistersAreNumbered(t *testing.T) {
	if l := [...]int{wheel.Turn, wheel.X, wheel.Y}; l != [...]int{0, 1, 2} {
		t.Error(l)
	}
}

// P12.1
func TestNew(t *testing.T) {
	v, w := wheel.New(), wheel.New()
	if v == nil || v == w || !wheel.Same(v, w) || v.At() != 0 || v.Way() != 1 {
		t.Fatal(v, w)
	}
	agree(t, v, &model{})
	put(t, v, 7)
	agree(t, w, &model{})
	agree(t, wheel.New(), &model{})
}

// broughtBack is the part of a place, found by steps of 256.
func broughtBack(n int) int {
	n %= 256
	if n < -128 {
		n += 256
	}
	if n > 127 {
		n -= 256
	}
	return n
}

// whole looks what Whole tells.
func whole(t *testing.T, z, want complex128) {
	t.Helper()
	if got := wheel.Whole(z); got != want || !isPlain(got) {
		t.Fatalf("Whole(%v): %v, not %v", z, got, want)
	}
}

// P12.1
func TestWholeOfWholeNumbers(t *testing.T) {
	var l []int
	for n := -1100; n <= 1100; n++ {
		l = append(l, n)
	}
	for n := range 300 {
		l = append(l, 1<<40-n, n-1<<40, 1<<24+n, -1<<24-n, 1<<32+n, -1<<32-n, 1<<31-n, n-1<<31)
	}
	for i, n := range l {
		part, other := float64(n), l[(i*7+3)%len(l)]
		back := float64(broughtBack(n))
		whole(t, complex(part, 0), complex(back, 0))
		whole(t, complex(0, part), complex(0, back))
		whole(t, complex(part, part), complex(back, back))
		whole(t, complex(part, float64(other)), complex(back, float64(broughtBack(other))))
	}
}

// P12.1: what is brought back is a place, by 256 so many times, and a place is its own.
func TestWholeIsAPlace(t *testing.T) {
	r := row(12)
	for range 200000 {
		top := []int{300, 70000, 1 << 33, 1<<40 + 1}[r.next(4)]
		x, y := r.next(2*top-1)-top+1, r.next(2*top-1)-top+1
		z := wheel.Whole(complex(float64(x), float64(y)))
		a, b := int(real(z)), int(imag(z))
		if min(a, b) < -128 || max(a, b) > 127 || (x-a)%256 != 0 || (y-b)%256 != 0 || z != complex(float64(a), float64(b)) {
			t.Fatal(x, y, z)
		}
		whole(t, z, z)
	}
}

// P12.1
func TestWholeOfAllPlaces(t *testing.T) {
	for x := -128; x < 128; x++ {
		for y := -128; y < 128; y++ {
			z := complex(float64(x), float64(y))
			whole(t, z, z)
			whole(t, z+256, z)
			whole(t, z-256i, z)
		}
	}
}

// P12.1
func TestWholeOfWhatIsNotWhole(t *testing.T) {
	least := math.SmallestNonzeroFloat64
	for _, part := range []float64{
		0.5, -0.5, 0.25, 1.5, -1.5, 127.5, -128.5, 255.75, 256.5, 1e-9, -1e-9, least, -least, 0.9999999999999999, 1.0000000000000002,
		math.Nextafter(1, 0), math.Nextafter(128, 0), math.Nextafter(-256, 0), math.Nextafter(1<<40, 0), math.Nextafter(-1<<40, 0),
		1<<39 + 0.5, -1<<39 - 0.5, 1<<40 - 0.5, 0.5 - 1<<40,
		math.NaN(), math.Inf(1), math.Inf(-1),
	} {
		notWhole(t, part)
	}
}

// P12.1
func TestWholeOfWhatIsTooFar(t *testing.T) {
	for _, part := range []float64{
		1<<40 + 1, 1<<40 + 2, 1<<40 + 3, 1<<40 + 256, 1 << 41, 1<<41 + 5, 1 << 52, 1<<53 - 1, 1 << 62, 1 << 63, 1 << 64, 1e20, 1e300, math.MaxFloat64,
		math.Nextafter(1<<40, 1<<41),
	} {
		notWhole(t, part)
		notWhole(t, -part)
	}
}

// notWhole looks that a number with such a part, and any other one, is 0.
func notWhole(t *testing.T, part float64) {
	t.Helper()
	for _, other := range []float64{0, math.Copysign(0, -1), 1, -1, 5, 256, 300, 1 << 40, -1 << 40, part, -part} {
		whole(t, complex(part, other), 0)
		whole(t, complex(other, part), 0)
	}
}

// P12.1
func TestNoZeroIsBelowZero(t *testing.T) {
	below := math.Copysign(0, -1)
	for _, z := range []complex128{complex(below, below), complex(below, 0), complex(0, below), complex(-256, below), complex(below, -512), complex(-1<<40, -1<<40), complex(256, -256)} {
		whole(t, z, 0)
	}
	whole(t, complex(below, 5), 5i)
	whole(t, complex(-3, below), -3)
	// Each way, by each number of quarters, and on from a place of noughts, with steps and without.
	for v := range 256 {
		for looks := range 4 {
			w, m := made(t, 0, 0, looks)
			for range 5 {
				putBoth(t, w, m, v)
				agree(t, w, m)
			}
		}
	}
}

// P12.2
func TestWriteOfAllBytes(t *testing.T) {
	for _, x := range []int{-128, -1, 0, 1, 64, 65, 127} {
		for _, y := range []int{-128, -65, -64, 0, 3, 127} {
			for looks := range 4 {
				w, m := made(t, x, y, looks)
				for v := range 256 {
					c, n := w.Clone(), *m
					putBoth(t, c, &n, v)
					agree(t, c, &n)
				}
				agree(t, w, m)
			}
		}
	}
}

// P12.2
func TestWriteAtTheEnds(t *testing.T) {
	each(t, func(w *wheel.Wheel, m *model) {
		for _, v := range []int{0, 1, 2, 3, 4, 5, 6, 7, 8, 128, 129, 248, 252, 253, 254, 255} {
			c, n := w.Clone(), *m
			putBoth(t, c, &n, v)
			agree(t, c, &n)
		}
	})
}

// P12.1, P12.2
func TestAllPlaces(t *testing.T) {
	for x := -128; x < 128; x++ {
		w, m := made(t, x, 0, 1)
		for range 256 {
			putBoth(t, w, m, 4)
			agree(t, w, m)
		}
		if m.x != x || m.y != 0 {
			t.Fatal(x, *m)
		}
	}
}

// P12.1, P12.2, P12.3
func TestRowsOfCallsAreAsOfTheModel(t *testing.T) {
	r := row(5)
	for range 2000 {
		w, m := wheel.New(), &model{}
		for range 200 {
			if r.next(4) == 0 {
				readBoth(t, w, m, r.reg())
			} else {
				writeBoth(t, w, m, r.reg(), r.tainted())
			}
			agree(t, w, m)
		}
	}
}

// P12.2
func TestSecretsAreAlarms(t *testing.T) {
	w, m := made(t, 5, -7, 2)
	putBoth(t, w, m, 13)
	was := w.Clone()
	for reg := range 3 {
		for secret := 1; secret < 256; secret++ {
			for v := range 256 {
				if rule, e := w.Write(reg, api.Byte{V: byte(v), T: byte(secret)}); rule != api.RuleSink || e != api.ErrAlarm || !wheel.Same(w, was) {
					t.Fatal(reg, secret, v, rule, e)
				}
			}
		}
		agree(t, w, m)
	}
}

// P12.2
func TestOtherRegistersDoNothing(t *testing.T) {
	w, m := made(t, 5, -7, 3)
	putBoth(t, w, m, 14)
	for reg := 1; reg < 3; reg++ {
		for v := range 256 {
			if rule, e := w.Write(reg, api.Byte{V: byte(v)}); rule != 0 || e != api.OK {
				t.Fatal(reg, v, rule, e)
			}
			agree(t, w, m)
		}
	}
}

// P12.2, R1: the range is named ahead of the alarm.
func TestOfNoRegister(t *testing.T) {
	w, m := made(t, 5, -7, 1)
	for _, reg := range none {
		for v := range 256 {
			for _, secret := range []byte{0, 1, 128, 255} {
				if rule, e := w.Write(reg, api.Byte{V: byte(v), T: secret}); rule != 0 || e != api.ErrRange {
					t.Fatal(reg, v, rule, e)
				}
			}
		}
		if b, e := w.Read(reg); b != (api.Byte{}) || e != api.ErrRange {
			t.Error(reg, b, e)
		}
		agree(t, w, m)
	}
}

// P12.2
func TestReadTurnsNothing(t *testing.T) {
	each(t, func(w *wheel.Wheel, m *model) {
		c := w.Clone()
		for reg := range 3 {
			for range 3 {
				readBoth(t, w, m, reg)
			}
		}
		if !wheel.Same(c, w) {
			t.Fatal(*m)
		}
	})
}

// P12.1
func TestClone(t *testing.T) {
	each(t, func(w *wheel.Wheel, m *model) {
		c, n := w.Clone(), *m
		if c == w || !wheel.Same(c, w) || !wheel.Same(w, c) {
			t.Fatal("no clone", *m)
		}
		agree(t, c, m)
		putBoth(t, w, m, 9)
		agree(t, c, &n)
		putBoth(t, c, &n, 22)
		agree(t, w, m)
		agree(t, c, &n)
	})
}

// P12.1
func TestSameOfEachDifference(t *testing.T) {
	for _, x := range []int{0, 5, -128, 127} {
		for _, y := range []int{0, 5, -128, 127} {
			for looks := range 4 {
				for _, last := range []int{0, 1, 128, 255} {
					v := lastly(t, x, y, looks, last)
					for _, c := range []struct {
						x, y, looks, last int
						want              bool
					}{
						{x, y, looks, last, true},
						{x + 1, y, looks, last, false}, {x - 1, y, looks, last, false}, {x + 128, y, looks, last, false},
						{x, y + 1, looks, last, false}, {x, y - 1, looks, last, false}, {x, y + 128, looks, last, false},
						{x, y, looks + 1, last, false}, {x, y, looks + 2, last, false}, {x, y, looks + 3, last, false},
						{x, y, looks, last + 1, false}, {x, y, looks, last + 4, false}, {x, y, looks, last + 128, false}, {x, y, looks, last + 255, false},
					} {
						w := lastly(t, broughtBack(c.x), broughtBack(c.y), c.looks%4, c.last%256)
						if wheel.Same(v, w) != c.want || wheel.Same(w, v) != c.want {
							t.Fatal(x, y, looks, last, c)
						}
					}
				}
			}
		}
	}
}

// lastly is a wheel of a place, a way and a byte that was written last.
func lastly(t *testing.T, x, y, looks, last int) *wheel.Wheel {
	t.Helper()
	before, steps := (looks+4-last%4)%4, last/4
	switch looks {
	case 0:
		x -= steps
	case 1:
		y -= steps
	case 2:
		x += steps
	case 3:
		y += steps
	}
	w, m := made(t, broughtBack(x), broughtBack(y), before)
	putBoth(t, w, m, last)
	agree(t, w, m)
	return w
}

// P12.1: the byte is told beside place and way.
func TestSameOfBytesThatComeToTheSame(t *testing.T) {
	v, w := wheel.New(), wheel.New()
	put(t, v, 2)
	put(t, v, 2)
	put(t, w, 3)
	put(t, w, 1)
	if v.At() != w.At() || v.Way() != w.Way() || wheel.Same(v, w) {
		t.Error(v, w)
	}
	put(t, v, 0)
	put(t, w, 0)
	if !wheel.Same(v, w) || !wheel.Same(v, wheel.New()) {
		t.Error(v, w)
	}
}

// P12.1, P12.2
func TestOfNil(t *testing.T) {
	var w *wheel.Wheel
	for _, reg := range append([]int{0, 1, 2}, none...) {
		for _, secret := range []byte{0, 1, 255} {
			if rule, e := w.Write(reg, api.Byte{V: 7, T: secret}); rule != 0 || e != api.ErrNil {
				t.Error("Write", reg, secret, rule, e)
			}
		}
		if b, e := w.Read(reg); b != (api.Byte{}) || e != api.ErrNil {
			t.Error("Read", reg, b, e)
		}
	}
	if w.At() != 0 || w.Way() != 0 || w.Clone() != nil || !isPlain(w.At()) || !isPlain(w.Way()) {
		t.Error(w.At(), w.Way(), w.Clone())
	}
	if v := wheel.New(); !wheel.Same(w, nil) || wheel.Same(v, w) || wheel.Same(w, v) {
		t.Error("Same")
	}
}

// P12.3
func TestFourTurnsAreNone(t *testing.T) {
	each(t, func(w *wheel.Wheel, m *model) {
		at, way := w.At(), w.Way()
		for n := range 4 {
			if n > 0 && w.Way() == way {
				t.Fatal(*m, n)
			}
			put(t, w, 1)
			if w.At() != at {
				t.Fatal(*m, n, w.At())
			}
		}
		if w.Way() != way {
			t.Fatal(*m, w.Way())
		}
	})
}

// P12.3
func TestStepsOfTwoWritesAreOfBoth(t *testing.T) {
	for looks := range 4 {
		for a := range 64 {
			for b := range 64 - a {
				v, _ := made(t, 100, -100, looks)
				w := v.Clone()
				put(t, v, a*4)
				put(t, v, b*4)
				put(t, w, (a+b)*4)
				if v.At() != w.At() || v.Way() != w.Way() {
					t.Fatal(looks, a, b, v.At(), w.At())
				}
			}
		}
	}
}

// P12.3
func TestStepsOnAllWaysAreNone(t *testing.T) {
	each(t, func(w *wheel.Wheel, m *model) {
		at, way := w.At(), w.Way()
		for _, n := range []int{0, 1, 2, 31, 62, 63} {
			for _, quarter := range []int{1, 3} {
				for range 4 {
					put(t, w, n*4+quarter)
				}
				if w.At() != at || w.Way() != way {
					t.Fatal(*m, n, quarter, w.At(), w.Way())
				}
			}
		}
	})
}

// P12.2 (the chapter's examples)
func TestExamples(t *testing.T) {
	w := wheel.New()
	put(t, w, 13)
	if b, e := w.Read(2); w.At() != 3i || w.Way() != 1i || b != (api.Byte{V: 3}) || e != api.OK {
		t.Error(w.At(), w.Way(), b, e)
	}
	if put(t, w, 6); w.At() != 2i || w.Way() != complex(0, -1) {
		t.Error(w.At(), w.Way())
	}
}
