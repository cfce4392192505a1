package sums_test

import (
	"math"
	"testing"

	"cochineal/api"
	"cochineal/sums"
	"cochineal/taint"
)

// corners are numbers of which each bit, and each edge of digits and of ones below 0, is met.
var corners = []byte{0, 1, 2, 4, 8, 0x09, 0x0a, 0x0f, 0x10, 0x20, 0x40, 0x55, 0x79, 0x7f, 0x80, 0x99, 0x9a, 0xa0, 0xf0, 0xff}

// secrets are what may be secret of a byte: none, each bit alone, and more of them.
var secrets = []byte{0, 1, 2, 4, 8, 0x10, 0x20, 0x40, 0x80, 0x0c, 0x81, 0xf0, 0xff}

// bits are all that a bit may be.
var bits = []api.Bit{{}, {V: true}, {T: true}, {V: true, T: true}}

// call is Add or Sub.
type call func(a, b api.Byte, c, dec api.Bit) sums.Sum

// both are the calls that reckon, with what each is to answer.
var both = []struct {
	name string
	call call
	want func(a, b, c int, dec bool) numbers
}{
	{"Add", sums.Add, wantAdd},
	{"Sub", sums.Sub, wantSub},
}

// numbers is a sum without its secrets.
type numbers struct {
	a          int
	n, v, z, c bool
}

// numbersOf is a sum's numbers.
func numbersOf(s sums.Sum) numbers {
	return numbers{int(s.A.V), s.N.V, s.V.V, s.Z.V, s.C.V}
}

// modulo is a number from 0 to m-1.
func modulo(n, m int) int { return ((n % m) + m) % m }

// below is a byte's number as one below 0.
func below(n int) int {
	if n >= 128 {
		return n - 256
	}
	return n
}

// wantAdd is the sum by the chapter's words.
func wantAdd(a, b, c int, dec bool) numbers {
	if !dec {
		sum, v := a+b+c, below(a)+below(b)+c
		return numbers{sum % 256, sum%256 >= 128, v < -128 || v > 127, sum%256 == 0, sum >= 256}
	}
	l := a%16 + b%16 + c
	if l >= 10 {
		l = 16 + (l+6)%16
	}
	h := a/16*16 + b/16*16 + l
	n := h/128%2 == 1
	v := below(a/16*16) + below(b/16*16) + l
	if h >= 160 {
		h += 96
	}
	return numbers{h % 256, n, v < -128 || v > 127, (a+b+c)%256 == 0, h >= 256}
}

// wantSub is the difference by the chapter's words.
func wantSub(a, b, c int, dec bool) numbers {
	s := wantAdd(a, 255-b, c, false)
	if !dec {
		return s
	}
	l := a%16 - b%16 - (1 - c)
	if l < 0 {
		l = modulo(l-6, 16) - 16
	}
	h := a/16*16 - b/16*16 + l
	if h < 0 {
		h -= 96
	}
	s.a = modulo(h, 256)
	return s
}

// one is 1, if it is so.
func one(is bool) int {
	if is {
		return 1
	}
	return 0
}

// pairs calls look with all numbers of two bytes, and of c.
func pairs(look func(a, b int, c bool)) {
	for a := range 256 {
		for b := range 256 {
			look(a, b, false)
			look(a, b, true)
		}
	}
}

// veiled calls look with corners of which bits are secret.
func veiled(look func(a, b api.Byte)) {
	for _, s := range secrets {
		for _, t := range secrets {
			for _, v := range corners {
				for _, w := range corners {
					look(api.Byte{V: v, T: s}, api.Byte{V: w, T: t})
				}
			}
		}
	}
}

// row is a sum with what it is to be.
type row struct {
	a, b   int
	in     bool
	dec    bool
	answer numbers
}

// check holds a call against rows.
func check(t *testing.T, name string, call call, rows []row) {
	t.Helper()
	for _, r := range rows {
		s := call(taint.Of(r.a), taint.Of(r.b), api.Bit{V: r.in}, api.Bit{V: r.dec})
		if numbersOf(s) != r.answer {
			t.Errorf("%s(%#x, %#x, %v, %v): %v, not %v", name, r.a, r.b, r.in, r.dec, numbersOf(s), r.answer)
		}
	}
}

// P2.1
func TestAddOfEdges(t *testing.T) {
	check(t, "Add", sums.Add, []row{
		{0, 0, false, false, numbers{0, false, false, true, false}},
		{0, 0, true, false, numbers{1, false, false, false, false}},
		{1, 254, false, false, numbers{255, true, false, false, false}},
		{1, 254, true, false, numbers{0, false, false, true, true}},
		{255, 255, true, false, numbers{255, true, false, false, true}},
		{127, 0, true, false, numbers{128, true, true, false, false}},
		{127, 128, true, false, numbers{0, false, false, true, true}},
		{128, 255, false, false, numbers{127, false, true, false, true}},
		{128, 255, true, false, numbers{128, true, false, false, true}},
		{64, 63, false, false, numbers{127, false, false, false, false}},
		{64, 63, true, false, numbers{128, true, true, false, false}},
	})
}

// P2.1
func TestDecimalAddOfEdges(t *testing.T) {
	check(t, "Add", sums.Add, []row{
		{37, 72, false, true, numbers{115, false, false, false, false}},
		{88, 70, true, true, numbers{5, true, true, false, true}},
		{0x05, 0x04, false, true, numbers{0x09, false, false, false, false}},
		{0x05, 0x04, true, true, numbers{0x10, false, false, false, false}},
		{0x99, 0x00, true, true, numbers{0, true, false, false, true}},
		{0x99, 0x99, true, true, numbers{0x99, false, true, false, true}},
		{0x50, 0x49, false, true, numbers{0x99, true, true, false, false}},
		{0x79, 0x00, true, true, numbers{0x80, true, true, false, false}},
		{0x00, 0x00, false, true, numbers{0, false, false, true, false}},
		{0x80, 0x80, false, true, numbers{0x60, false, true, true, true}},
		// and of digits that are none
		{0x0f, 0x00, false, true, numbers{0x15, false, false, false, false}},
		{0x0f, 0x0f, true, true, numbers{0x15, false, false, false, false}},
		{0x9a, 0x00, false, true, numbers{0, true, false, false, true}},
		{0xf0, 0xf0, false, true, numbers{0x40, true, false, false, true}},
		{0xff, 0x00, true, true, numbers{0x66, false, false, true, true}},
		{0xff, 0xff, true, true, numbers{0x55, true, false, false, true}},
	})
}

// P2.1
func TestSubOfEdges(t *testing.T) {
	check(t, "Sub", sums.Sub, []row{
		{0, 0, true, false, numbers{0, false, false, true, true}},
		{0, 0, false, false, numbers{255, true, false, false, false}},
		{0, 1, true, false, numbers{255, true, false, false, false}},
		{1, 0, false, false, numbers{0, false, false, true, true}},
		{128, 0, false, false, numbers{127, false, true, false, true}},
		{127, 255, true, false, numbers{128, true, true, false, false}},
		{0, 128, true, false, numbers{128, true, true, false, false}},
		{0, 128, false, false, numbers{127, false, false, false, false}},
		{255, 255, true, false, numbers{0, false, false, true, true}},
	})
}

// P2.1
func TestDecimalSubOfEdges(t *testing.T) {
	check(t, "Sub", sums.Sub, []row{
		{0x46, 0x12, true, true, numbers{0x34, false, false, false, true}},
		{0x40, 0x13, true, true, numbers{0x27, false, false, false, true}},
		{0x00, 0x00, true, true, numbers{0, false, false, true, true}},
		{0x00, 0x00, false, true, numbers{0x99, true, false, false, false}},
		{0x10, 0x00, false, true, numbers{0x09, false, false, false, true}},
		{0x00, 0x99, true, true, numbers{0x01, false, false, false, false}},
		{0x00, 0x99, false, true, numbers{0x00, false, false, false, false}},
		{0x99, 0x99, true, true, numbers{0, false, false, true, true}},
		{0x80, 0x01, true, true, numbers{0x79, false, true, false, true}},
		// and of digits that are none
		{0x0f, 0x00, true, true, numbers{0x0f, false, false, false, true}},
		{0x00, 0x0f, true, true, numbers{0x9b, true, false, false, false}},
		{0x00, 0xff, true, true, numbers{0xab, false, false, false, false}},
		{0x00, 0xff, false, true, numbers{0xaa, false, false, true, false}},
		{0xff, 0x00, true, true, numbers{0xff, true, false, false, true}},
	})
}

// P2.1
func TestSumsOfAllBytes(t *testing.T) {
	for _, k := range both {
		pairs(func(a, b int, c bool) {
			for _, dec := range []bool{false, true} {
				s := k.call(taint.Of(a), taint.Of(b), api.Bit{V: c}, api.Bit{V: dec})
				if want := k.want(a, b, one(c), dec); numbersOf(s) != want {
					t.Fatalf("%s(%#x, %#x, %v, %v): %v, not %v", k.name, a, b, c, dec, numbersOf(s), want)
				}
			}
		})
	}
}

// P2.1 (what is secret turns no number: a secret bit's own number counts, of c and dec as well.)
func TestNumbersAreReckonedWithSecretsAsTheyAre(t *testing.T) {
	for _, k := range both {
		veiled(func(a, b api.Byte) {
			for _, c := range bits {
				for _, dec := range bits {
					want := k.want(int(a.V), int(b.V), one(c.V), dec.V)
					if s := k.call(a, b, c, dec); numbersOf(s) != want {
						t.Fatalf("%s(%v, %v, %v, %v): %v, not %v", k.name, a, b, c, dec, numbersOf(s), want)
					}
				}
			}
		})
	}
}

// above are all bits from the lowest secret one of two bytes on.
func above(a, b api.Byte) byte {
	var t byte
	for i := 7; i >= 0; i-- {
		if (a.T|b.T)%(1<<i) != 0 || (a.T|b.T)>>i&1 == 1 {
			t += 1 << i
		}
	}
	return t
}

// hidden is a sum with what is to be secret of it.
func hidden(s sums.Sum, a, b api.Byte, c, dec api.Bit) sums.Sum {
	if dec.V || dec.T {
		is := a.T != 0 || b.T != 0 || c.T || dec.T
		s.A.T = 255 * byte(one(is))
		s.N.T, s.V.T, s.Z.T, s.C.T = is, is, is, is
		return s
	}
	s.A.T = above(a, b)
	if c.T {
		s.A.T = 255
	}
	s.N.T = s.A.T >= 128
	s.V.T, s.C.T = s.A.T != 0, s.A.T != 0
	// It may be 0, and may not, if all that is not secret is 0, and something is secret.
	s.Z.T = s.A.T != 0 && s.A.V&^s.A.T == 0
	return s
}

// P2.2
func TestSecretsOfExamples(t *testing.T) {
	no, yes, sec := api.Bit{}, api.Bit{V: true}, api.Bit{T: true}
	for i, c := range []struct {
		a, b       api.Byte
		in, dec    api.Bit
		want       byte
		n, v, z, c bool
	}{
		{api.Byte{V: 4}, api.Byte{V: 1}, no, no, 0, false, false, false, false},
		{api.Byte{V: 4, T: 4}, api.Byte{V: 1}, no, no, 0xfc, true, true, false, true},
		{api.Byte{V: 4}, api.Byte{V: 2, T: 0x40}, no, no, 0xc0, true, true, false, true},
		{api.Byte{V: 8, T: 8}, api.Byte{V: 0, T: 0x80}, no, no, 0xf8, true, true, true, true},
		{api.Byte{V: 0}, api.Byte{V: 0, T: 0x80}, no, no, 0x80, true, true, true, true},
		{api.Byte{V: 0}, api.Byte{V: 0}, sec, no, 0xff, true, true, true, true},
		{api.Byte{V: 0, T: 0x80}, api.Byte{V: 0}, sec, no, 0xff, true, true, true, true},
		{api.Byte{V: 4}, api.Byte{V: 1}, no, sec, 0xff, true, true, true, true},
		{api.Byte{V: 4}, api.Byte{V: 1}, yes, yes, 0, false, false, false, false},
		{api.Byte{V: 4}, api.Byte{V: 1}, sec, yes, 0xff, true, true, true, true},
		{api.Byte{V: 4, T: 0x80}, api.Byte{V: 1}, no, yes, 0xff, true, true, true, true},
		{api.Byte{V: 4}, api.Byte{V: 1, T: 0x80}, no, yes, 0xff, true, true, true, true},
		{api.Byte{V: 4}, api.Byte{V: 1}, no, api.Bit{V: true, T: true}, 0xff, true, true, true, true},
	} {
		s := sums.Add(c.a, c.b, c.in, c.dec)
		if s.A.T != c.want || s.N.T != c.n || s.V.T != c.v || s.Z.T != c.z || s.C.T != c.c {
			t.Errorf("%d: %v", i, s)
		}
	}
}

// P2.2
func TestSecretsOfSums(t *testing.T) {
	for _, k := range both {
		veiled(func(a, b api.Byte) {
			for _, c := range bits {
				for _, dec := range bits {
					s := k.call(a, b, c, dec)
					if want := hidden(s, a, b, c, dec); s != want {
						t.Fatalf("%s(%v, %v, %v, %v): %v, not %v", k.name, a, b, c, dec, s, want)
					}
				}
			}
		})
	}
}

// P2.2
func TestSecretsOfAllSecrets(t *testing.T) {
	for _, k := range both {
		for s := range 256 {
			for u := range 256 {
				a, b := api.Byte{V: 0x5a, T: byte(s)}, api.Byte{V: 0xc6, T: byte(u)}
				for _, c := range bits {
					for _, dec := range bits {
						sum := k.call(a, b, c, dec)
						if want := hidden(sum, a, b, c, dec); sum != want {
							t.Fatalf("%s(%v, %v, %v, %v): %v, not %v", k.name, a, b, c, dec, sum, want)
						}
					}
				}
			}
		}
	}
}

// P2.2
func TestNothingIsSecretOfWhatIsNot(t *testing.T) {
	for _, k := range both {
		pairs(func(a, b int, c bool) {
			for _, dec := range []bool{false, true} {
				s := k.call(taint.Of(a), taint.Of(b), api.Bit{V: c}, api.Bit{V: dec})
				if s.A.T != 0 || s.N.T || s.V.T || s.Z.T || s.C.T {
					t.Fatalf("%s(%#x, %#x, %v, %v): %v", k.name, a, b, c, dec, s)
				}
			}
		})
	}
}

// P2.3
func TestCompareOfExamples(t *testing.T) {
	for _, c := range []struct {
		a, b api.Byte
		want sums.Sum
	}{
		{taint.Of(5), taint.Of(5), sums.Sum{Z: api.Bit{V: true}, C: api.Bit{V: true}}},
		{taint.Of(5), taint.Of(3), sums.Sum{A: taint.Of(2), C: api.Bit{V: true}}},
		{taint.Of(3), taint.Of(5), sums.Sum{A: taint.Of(254), N: api.Bit{V: true}}},
		// Sub tells V of this one.
		{taint.Of(128), taint.Of(1), sums.Sum{A: taint.Of(127), C: api.Bit{V: true}}},
		{api.Byte{V: 9, T: 1}, taint.Of(9), sums.Sum{
			A: api.Byte{T: 255}, N: api.Bit{T: true}, Z: api.Bit{V: true, T: true}, C: api.Bit{V: true, T: true},
		}},
		{taint.Of(9), api.Byte{V: 8, T: 8}, sums.Sum{
			A: api.Byte{V: 1, T: 0xf8}, N: api.Bit{T: true}, C: api.Bit{V: true, T: true},
		}},
	} {
		if s := sums.Compare(c.a, c.b); s != c.want {
			t.Errorf("Compare(%v, %v): %v, not %v", c.a, c.b, s, c.want)
		}
	}
}

// P2.3
func TestCompareIsSubWithoutV(t *testing.T) {
	look := func(a, b api.Byte) {
		want := wantSub(int(a.V), int(b.V), 1, false)
		want.v = false
		s := sums.Compare(a, b)
		if numbersOf(s) != want {
			t.Fatalf("Compare(%v, %v): %v, not %v", a, b, numbersOf(s), want)
		}
		bare := hidden(s, a, b, api.Bit{}, api.Bit{})
		bare.V = api.Bit{}
		if s != bare {
			t.Fatalf("Compare(%v, %v): %v, not %v", a, b, s, bare)
		}
	}
	veiled(look)
	pairs(func(a, b int, _ bool) { look(taint.Of(a), taint.Of(b)) })
}

// P2.3
func TestStepOfExamples(t *testing.T) {
	for _, c := range []struct {
		a    api.Byte
		by   int
		want api.Byte
	}{
		{taint.Of(0), 1, taint.Of(1)},
		{taint.Of(255), 1, taint.Of(0)},
		{taint.Of(0), -1, taint.Of(255)},
		{taint.Of(7), 0, taint.Of(7)},
		{taint.Of(7), 256, taint.Of(7)},
		{taint.Of(7), -256, taint.Of(7)},
		{taint.Of(7), 1000, taint.Of(239)},
		{taint.Of(7), -1000, taint.Of(31)},
		{taint.Of(7), math.MaxInt, taint.Of(6)},
		{taint.Of(7), math.MinInt, taint.Of(7)},
		{taint.Of(255), math.MaxInt, taint.Of(254)},
		{taint.Of(0), math.MinInt + 1, taint.Of(1)},
		{api.Byte{V: 255, T: 8}, 1, api.Byte{V: 0, T: 0xf8}},
		{api.Byte{V: 3, T: 0x80}, 1, api.Byte{V: 4, T: 0x80}},
		{api.Byte{V: 3, T: 0x41}, -1, api.Byte{V: 2, T: 0xff}},
		{api.Byte{V: 3, T: 2}, 0, api.Byte{V: 3, T: 0xfe}},
		{api.Byte{V: 3, T: 2}, math.MinInt, api.Byte{V: 3, T: 0xfe}},
	} {
		if s := sums.Step(c.a, c.by); s != c.want {
			t.Errorf("Step(%v, %d): %v, not %v", c.a, c.by, s, c.want)
		}
	}
}

// P2.3
func TestStepOfAllBytes(t *testing.T) {
	for v := range 256 {
		for s := range 256 {
			a := api.Byte{V: byte(v), T: byte(s)}
			for _, by := range []int{-300, -256, -128, -2, -1, 0, 1, 2, 127, 255, 256, 300} {
				want := api.Byte{V: byte(modulo(v+by, 256)), T: above(a, api.Byte{})}
				if b := sums.Step(a, by); b != want {
					t.Fatalf("Step(%v, %d): %v, not %v", a, by, b, want)
				}
			}
		}
	}
}

// sameBit tells whether two bits are the same but for secrets.
func sameBit(a, b api.Bit) bool { return a.T == b.T && (a.T || a.V == b.V) }

// sameSum tells whether two sums are the same but for secrets.
func sameSum(a, b sums.Sum) bool {
	return taint.Same(a.A, b.A) && sameBit(a.N, b.N) && sameBit(a.V, b.V) && sameBit(a.Z, b.Z) && sameBit(a.C, b.C)
}

// twin is a byte that is the same but for secrets.
func twin(a api.Byte, other byte) api.Byte { return api.Byte{V: a.V ^ other&a.T, T: a.T} }

// twinBit is the other bit, if it is secret.
func twinBit(b api.Bit) api.Bit { return api.Bit{V: b.V != b.T, T: b.T} }

// P2.4
func TestSameComesOfSame(t *testing.T) {
	for _, k := range both {
		veiled(func(a, b api.Byte) {
			for _, other := range []byte{0, 0x5a, 0xff} {
				x, y := twin(a, other), twin(b, ^other)
				for _, c := range bits {
					for _, dec := range bits {
						if !sameSum(k.call(a, b, c, dec), k.call(x, y, twinBit(c), twinBit(dec))) {
							t.Fatalf("%s(%v, %v, %v, %v) is told from that of %v and %v", k.name, a, b, c, dec, x, y)
						}
					}
				}
			}
		})
	}
}

// P2.4
func TestSameComesOfSameComparedAndStepped(t *testing.T) {
	veiled(func(a, b api.Byte) {
		for _, other := range []byte{0, 0x5a, 0xff} {
			x, y := twin(a, other), twin(b, ^other)
			if !sameSum(sums.Compare(a, b), sums.Compare(x, y)) {
				t.Fatalf("Compare(%v, %v) is told from that of %v and %v", a, b, x, y)
			}
			for _, by := range []int{-1, 0, 1, 77} {
				if !taint.Same(sums.Step(a, by), sums.Step(x, by)) {
					t.Fatalf("Step(%v, %d) is told from that of %v", a, by, x)
				}
			}
		}
	})
}

// P2.4 (of digits that are none this holds of binary sums alone: the decimal one of 15 and 0 is 21.)
func TestWhatIsAddedAndTakenAwayIsTheByte(t *testing.T) {
	pairs(func(a, b int, c bool) {
		for _, dec := range []bool{false, true} {
			if dec && !(isDecimal(a) && isDecimal(b)) {
				continue
			}
			up := sums.Add(taint.Of(a), taint.Of(b), api.Bit{V: c}, api.Bit{V: dec})
			if down := sums.Sub(up.A, taint.Of(b), api.Bit{V: !c}, api.Bit{V: dec}); down.A != taint.Of(a) {
				t.Fatalf("%#x and %#x, and that less (c: %v, dec: %v): %v", a, b, c, dec, down.A)
			}
		}
	})
	for a := range 256 {
		for by := range 600 {
			if b := sums.Step(sums.Step(taint.Of(a), by), -by); b != taint.Of(a) {
				t.Fatalf("%d and %d, and that less: %v", a, by, b)
			}
		}
	}
}

// isDecimal tells whether both digits of a byte are from 0 to 9.
func isDecimal(b int) bool { return b/16 <= 9 && b%16 <= 9 }

// digits is a number from 0 to 99 as a byte of two digits.
func digits(n int) api.Byte { return taint.Of(n/10*16 + n%10) }

// P2.4
func TestDecimalSumsAreThoseOfNumbers(t *testing.T) {
	for a := range 100 {
		for b := range 100 {
			for _, c := range []bool{false, true} {
				more, less := a+b+one(c), a-b-one(!c)
				s := sums.Add(digits(a), digits(b), api.Bit{V: c}, api.Bit{V: true})
				if s.A != digits(more%100) || s.C != (api.Bit{V: more >= 100}) {
					t.Fatalf("%d and %d, c: %v: %v", a, b, c, s)
				}
				s = sums.Sub(digits(a), digits(b), api.Bit{V: c}, api.Bit{V: true})
				if s.A != digits(modulo(less, 100)) || s.C != (api.Bit{V: less >= 0}) {
					t.Fatalf("%d less %d, c: %v: %v", a, b, c, s)
				}
			}
		}
	}
}
