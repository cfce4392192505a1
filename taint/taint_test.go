package taint_test

import (
	"math"
	"testing"

	"cochineal/api"
	"cochineal/taint"
)

// corners are numbers of which each bit, and each run of bits, is met.
var corners = []byte{0, 1, 2, 3, 4, 8, 0x0f, 0x10, 0x20, 0x40, 0x55, 0x7f, 0x80, 0x81, 0xaa, 0xf0, 0xfe, 0xff}

// noPlaces are places at which a byte has no bit.
var noPlaces = []int{-1, 8, 9, 64, 256, -8, math.MinInt, math.MaxInt}

// bits are all that a bit may be.
var bits = []api.Bit{{}, {V: true}, {T: true}, {V: true, T: true}}

// some are bytes with all corners as numbers, and as secrets.
func some() []api.Byte {
	var l []api.Byte
	for _, v := range corners {
		for _, t := range corners {
			l = append(l, api.Byte{V: v, T: t})
		}
	}
	return l
}

// every calls look with each byte that there is.
func every(look func(a api.Byte)) {
	for v := range 256 {
		for t := range 256 {
			look(api.Byte{V: byte(v), T: byte(t)})
		}
	}
}

// is is the bit of a byte at a place, told without the package.
func is(b byte, i int) bool { return b&(1<<i) != 0 }

// sameByte tells whether two bytes are the same but for secrets, without the package.
func sameByte(a, b api.Byte) bool {
	for i := range 8 {
		if is(a.T, i) != is(b.T, i) || !is(a.T, i) && is(a.V, i) != is(b.V, i) {
			return false
		}
	}
	return true
}

// options are the values that a bit may have.
func options(v, secret bool) []bool {
	if secret {
		return []bool{false, true}
	}
	return []bool{v}
}

// gates are the calls that join bytes, and what each does with two bits.
var gates = []struct {
	name string
	call func(a, b api.Byte) api.Byte
	rule func(x, y bool) bool
}{
	{"And", taint.And, func(x, y bool) bool { return x && y }},
	{"Or", taint.Or, func(x, y bool) bool { return x || y }},
	{"Xor", taint.Xor, func(x, y bool) bool { return x != y }},
}

// moves are the calls that move bits.
var moves = []struct {
	name string
	call func(a api.Byte, in api.Bit) (api.Byte, api.Bit)
}{
	{"Left", taint.Left},
	{"Right", taint.Right},
}

// P1.1
func TestOf(t *testing.T) {
	for _, c := range []struct {
		v    int
		want byte
	}{
		{0, 0}, {1, 1}, {127, 127}, {128, 128}, {255, 255}, {256, 0}, {300, 44}, {65535, 255}, {65536, 0},
		{-1, 255}, {-128, 128}, {-256, 0}, {-257, 255}, {math.MaxInt, 255}, {math.MinInt, 0},
	} {
		if a := taint.Of(c.v); a != (api.Byte{V: c.want}) {
			t.Errorf("Of(%d): %v, not %d", c.v, a, c.want)
		}
	}
}

// P1.1
func TestSameTellsSecretsApartFromOthers(t *testing.T) {
	for _, c := range []struct {
		a, b api.Byte
		want bool
	}{
		{api.Byte{}, api.Byte{}, true},
		{api.Byte{V: 5}, api.Byte{V: 5}, true},
		{api.Byte{V: 5}, api.Byte{V: 4}, false},
		{api.Byte{V: 5, T: 1}, api.Byte{V: 4, T: 1}, true},
		{api.Byte{V: 5, T: 1}, api.Byte{V: 4, T: 3}, false},
		{api.Byte{V: 5, T: 1}, api.Byte{V: 5}, false},
		{api.Byte{V: 5}, api.Byte{V: 5, T: 1}, false},
		{api.Byte{V: 0x80, T: 0x7f}, api.Byte{V: 0xff, T: 0x7f}, true},
		{api.Byte{V: 0x80, T: 0x7f}, api.Byte{V: 0x7f, T: 0x7f}, false},
		{api.Byte{V: 0, T: 255}, api.Byte{V: 255, T: 255}, true},
	} {
		if taint.Same(c.a, c.b) != c.want {
			t.Errorf("Same(%v, %v) is not %v", c.a, c.b, c.want)
		}
	}
}

// P1.1
func TestSameGoesBitByBit(t *testing.T) {
	for _, a := range some() {
		for _, b := range some() {
			if want := sameByte(a, b); taint.Same(a, b) != want {
				t.Fatalf("Same(%v, %v) is not %v", a, b, want)
			}
		}
	}
}

// P1.1
func TestErase(t *testing.T) {
	every(func(a api.Byte) {
		if b := taint.Erase(a); b != (api.Byte{V: a.V}) {
			t.Fatalf("Erase(%v): %v", a, b)
		}
	})
}

// P1.1
func TestSpread(t *testing.T) {
	for _, c := range [][2]byte{{0, 0}, {1, 255}, {2, 254}, {12, 252}, {64, 192}, {128, 128}, {129, 255}, {255, 255}} {
		if s := taint.Spread(c[0]); s != c[1] {
			t.Errorf("Spread(%d): %d, not %d", c[0], s, c[1])
		}
	}
	for v := range 256 {
		s, seen := taint.Spread(byte(v)), false
		for i := range 8 {
			seen = seen || is(byte(v), i)
			if is(s, i) != seen {
				t.Fatalf("Spread(%d): %d", v, s)
			}
		}
	}
}

// P1.2
func TestGatesOfExamples(t *testing.T) {
	secret, other := api.Byte{V: 15, T: 3}, api.Byte{V: 5}
	if c := taint.And(secret, other); c != (api.Byte{V: 5, T: 1}) {
		t.Error("And", c)
	}
	if c := taint.Or(secret, other); c != (api.Byte{V: 15, T: 2}) {
		t.Error("Or", c)
	}
	if c := taint.Xor(secret, other); c != (api.Byte{V: 10, T: 3}) {
		t.Error("Xor", c)
	}
}

// P1.2
func TestGatesGoBitByBit(t *testing.T) {
	for _, g := range gates {
		for _, a := range some() {
			for _, b := range some() {
				c := g.call(a, b)
				for i := range 8 {
					want := joined(a, b, i, g.rule)
					if is(c.V, i) != want.V || is(c.T, i) != want.T {
						t.Fatalf("%s(%v, %v): %v, of which the bit %d is wrong", g.name, a, b, c, i)
					}
				}
			}
		}
	}
}

// joined is the bit at a place of two bytes that are joined: secret, if it may be more than one thing.
func joined(a, b api.Byte, i int, rule func(x, y bool) bool) api.Bit {
	v := rule(is(a.V, i), is(b.V, i))
	for _, x := range options(is(a.V, i), is(a.T, i)) {
		for _, y := range options(is(b.V, i), is(b.T, i)) {
			if rule(x, y) != v {
				return api.Bit{V: v, T: true}
			}
		}
	}
	return api.Bit{V: v}
}

// P1.2
func TestGatesOfEachPairOfBits(t *testing.T) {
	for _, g := range gates {
		for i := range 8 {
			for _, x := range bits {
				for _, y := range bits {
					a, b := taint.Put(api.Byte{}, i, x), taint.Put(api.Byte{}, i, y)
					if got, want := taint.Bit(g.call(a, b), i), joined(a, b, i, g.rule); got != want {
						t.Errorf("%s of the bits %v and %v at %d: %v, not %v", g.name, x, y, i, got, want)
					}
				}
			}
		}
	}
}

// P1.3
func TestMoves(t *testing.T) {
	every(func(a api.Byte) {
		for _, in := range bits {
			up, high := taint.Left(a, in)
			down, low := taint.Right(a, in)
			if high != (api.Bit{V: is(a.V, 7), T: is(a.T, 7)}) || low != (api.Bit{V: is(a.V, 0), T: is(a.T, 0)}) {
				t.Fatalf("%v: %v and %v go out", a, high, low)
			}
			if is(up.V, 0) != in.V || is(up.T, 0) != in.T || is(down.V, 7) != in.V || is(down.T, 7) != in.T {
				t.Fatalf("%v: %v does not come in: %v, %v", a, in, up, down)
			}
			for i := range 7 {
				if is(up.V, i+1) != is(a.V, i) || is(up.T, i+1) != is(a.T, i) {
					t.Fatalf("Left(%v): %v", a, up)
				}
				if is(down.V, i) != is(a.V, i+1) || is(down.T, i) != is(a.T, i+1) {
					t.Fatalf("Right(%v): %v", a, down)
				}
			}
		}
	})
}

// P1.3
func TestBit(t *testing.T) {
	every(func(a api.Byte) {
		for i := range 8 {
			if b := taint.Bit(a, i); b != (api.Bit{V: is(a.V, i), T: is(a.T, i)}) {
				t.Fatalf("Bit(%v, %d): %v", a, i, b)
			}
		}
	})
	for _, i := range noPlaces {
		if b := taint.Bit(api.Byte{V: 255, T: 255}, i); b != (api.Bit{}) {
			t.Errorf("Bit at %d: %v", i, b)
		}
	}
}

// P1.3
func TestPut(t *testing.T) {
	every(func(a api.Byte) {
		for i := range 8 {
			for _, b := range bits {
				c := taint.Put(a, i, b)
				if is(c.V, i) != b.V || is(c.T, i) != b.T {
					t.Fatalf("Put(%v, %d, %v): %v", a, i, b, c)
				}
				if others := ^byte(1 << i); c.V&others != a.V&others || c.T&others != a.T&others {
					t.Fatalf("Put(%v, %d, %v) turns another bit: %v", a, i, b, c)
				}
			}
		}
	})
	for _, i := range noPlaces {
		for _, b := range bits {
			for _, a := range []api.Byte{{}, {V: 0xa5, T: 0x3c}, {V: 255, T: 255}} {
				if c := taint.Put(a, i, b); c != a {
					t.Errorf("Put(%v, %d, %v): %v", a, i, b, c)
				}
			}
		}
	}
}

// P1.3
func TestZero(t *testing.T) {
	if z := taint.Zero(api.Byte{V: 2, T: 1}); z != (api.Bit{}) {
		t.Error("Zero of 2 (secret: 1)", z)
	}
	if z := taint.Zero(api.Byte{}); z != (api.Bit{V: true}) {
		t.Error("Zero of 0", z)
	}
	every(func(a api.Byte) {
		may, mayNot := false, false
		for v := range 256 {
			if b := (api.Byte{V: byte(v), T: a.T}); sameByte(a, b) {
				may = may || v == 0
				mayNot = mayNot || v != 0
			}
		}
		if z := taint.Zero(a); z != (api.Bit{V: a.V == 0, T: may && mayNot}) {
			t.Fatalf("Zero(%v): %v", a, z)
		}
	})
}

// sameBit tells whether two bits are the same but for secrets.
func sameBit(a, b api.Bit) bool { return a.T == b.T && (a.T || a.V == b.V) }

// twins calls look with bytes that are the same but for secrets.
func twins(look func(a, b api.Byte)) {
	for _, a := range some() {
		for _, other := range []byte{0x01, 0x80, 0x5a, 0xff} {
			look(a, api.Byte{V: a.V ^ other&a.T, T: a.T})
		}
	}
}

// P1.4 (Erase is left out: by P1.1 it keeps bits that were secret, and makes them public.)
func TestSameComesOfSame(t *testing.T) {
	twins(func(a, b api.Byte) {
		if !taint.Same(a, b) {
			t.Fatalf("%v and %v are not the same", a, b)
		}
		if !sameBit(taint.Zero(a), taint.Zero(b)) {
			t.Fatalf("Zero tells %v and %v apart", a, b)
		}
		for i := range 8 {
			if !sameBit(taint.Bit(a, i), taint.Bit(b, i)) {
				t.Fatalf("Bit tells %v and %v apart", a, b)
			}
			for _, in := range bits {
				other := api.Bit{V: in.V != in.T, T: in.T}
				if !taint.Same(taint.Put(a, i, in), taint.Put(b, i, other)) {
					t.Fatalf("Put tells %v and %v apart", a, b)
				}
			}
		}
		for _, m := range moves {
			for _, in := range bits {
				x, xOut := m.call(a, in)
				y, yOut := m.call(b, api.Bit{V: in.V != in.T, T: in.T})
				if !taint.Same(x, y) || !sameBit(xOut, yOut) {
					t.Fatalf("%s tells %v and %v apart", m.name, a, b)
				}
			}
		}
	})
}

// P1.4
func TestSameComesOfSameJoined(t *testing.T) {
	for _, g := range gates {
		twins(func(a, b api.Byte) {
			for _, c := range some() {
				d := api.Byte{V: c.V ^ c.T, T: c.T}
				if !taint.Same(g.call(a, c), g.call(b, d)) || !taint.Same(g.call(c, a), g.call(d, b)) {
					t.Fatalf("%s tells %v and %v apart, or %v and %v", g.name, a, b, c, d)
				}
			}
		})
	}
}

// P1.4
func TestWhatIsNotSecretIsAsWithoutSecrets(t *testing.T) {
	for _, g := range gates {
		for _, a := range some() {
			for _, b := range some() {
				c, plain := g.call(a, b), g.call(taint.Erase(a), taint.Erase(b))
				if plain.T != 0 || (c.V^plain.V)&^c.T != 0 {
					t.Fatalf("%s(%v, %v): %v, without secrets %v", g.name, a, b, c, plain)
				}
			}
		}
	}
	every(func(a api.Byte) {
		e := taint.Erase(a)
		z, plain := taint.Zero(a), taint.Zero(e)
		if plain.T || !z.T && z.V != plain.V {
			t.Fatalf("Zero(%v): %v, without secrets %v", a, z, plain)
		}
		for _, m := range moves {
			for _, in := range bits {
				x, out := m.call(a, in)
				y, plain := m.call(e, api.Bit{V: in.V})
				if y.T != 0 || plain.T || (x.V^y.V)&^x.T != 0 || !out.T && out.V != plain.V {
					t.Fatalf("%s(%v, %v): %v and %v, without secrets %v and %v", m.name, a, in, x, out, y, plain)
				}
			}
		}
	})
}
