package flags_test

import (
	"math"
	"testing"

	"cochineal/api"
	"cochineal/flags"
	"cochineal/taint"
)

// bits are all that a bit may be.
var bits = []api.Bit{{}, {V: true}, {T: true}, {V: true, T: true}}

// great and small are the letters of the bits from 7 to 0.
const (
	great = "NVOBDIZC"
	small = "nvobdizc"
)

// registers calls look with all that a register may be.
func registers(look func(p api.Byte)) {
	for v := range 256 {
		for s := range 256 {
			look(api.Byte{V: byte(v), T: byte(s)})
		}
	}
}

// has tells whether a bit of a byte is 1.
func has(b byte, i int) bool { return b>>i&1 == 1 }

// with is a byte with a bit of it told.
func with(b byte, i int, is bool) byte {
	if has(b, i) == is {
		return b
	}
	return b ^ 1<<i
}

// put is a register with a bit told.
func put(p api.Byte, i int, b api.Bit) api.Byte {
	return api.Byte{V: with(p.V, i, b.V), T: with(p.T, i, b.T)}
}

// Words: the bits from 0 on.
func TestPlaces(t *testing.T) {
	got := [...]int{flags.C, flags.Z, flags.I, flags.D, flags.B, flags.One, flags.V, flags.N}
	if got != [...]int{0, 1, 2, 3, 4, 5, 6, 7} {
		t.Error(got)
	}
}

// P3.1
func TestGetIsTheBit(t *testing.T) {
	registers(func(p api.Byte) {
		for i := range 8 {
			want := api.Bit{V: has(p.V, i), T: has(p.T, i)}
			if b := flags.Get(p, i); b != want || b != taint.Bit(p, i) {
				t.Fatalf("Get(%v, %d): %v, not %v", p, i, b, want)
			}
		}
	})
}

// P3.1
func TestSetPutsTheBit(t *testing.T) {
	registers(func(p api.Byte) {
		for i := range 8 {
			for _, b := range bits {
				want := put(p, i, b)
				if q := flags.Set(p, i, b); q != want || q != taint.Put(p, i, b) {
					t.Fatalf("Set(%v, %d, %v): %v, not %v", p, i, b, q, want)
				}
			}
		}
	})
}

// P3.1
func TestGetAndSetOfNoPlace(t *testing.T) {
	p := api.Byte{V: 0xff, T: 0xa5}
	for _, i := range []int{-1, 8, 9, 15, 32, 64, 256, -8, -256, math.MaxInt, math.MinInt} {
		if b := flags.Get(p, i); b != taint.Bit(p, i) || b != (api.Bit{}) {
			t.Errorf("Get(%v, %d): %v", p, i, b)
		}
		for _, b := range bits {
			if q := flags.Set(p, i, b); q != taint.Put(p, i, b) || q != p {
				t.Errorf("Set(%v, %d, %v): %v", p, i, b, q)
			}
		}
	}
}

// P3.1
func TestToldOfExamples(t *testing.T) {
	for _, c := range []struct{ p, a, want api.Byte }{
		{taint.Of(0), taint.Of(0), taint.Of(0x02)},
		{taint.Of(0), taint.Of(1), taint.Of(0)},
		{taint.Of(0), taint.Of(0x7f), taint.Of(0)},
		{taint.Of(0), taint.Of(0x80), taint.Of(0x80)},
		{taint.Of(0xff), taint.Of(0), taint.Of(0x7f)},
		{taint.Of(0xff), taint.Of(1), taint.Of(0x7d)},
		{taint.Of(0xff), taint.Of(0xff), taint.Of(0xfd)},
		// what the register kept secret there is told anew
		{api.Byte{V: 0xff, T: 0xff}, taint.Of(1), api.Byte{V: 0x7d, T: 0x7d}},
		// a byte that may be 0, or not
		{taint.Of(0), api.Byte{T: 0x80}, api.Byte{V: 0x02, T: 0x82}},
		{taint.Of(0), api.Byte{V: 0x80, T: 0x80}, api.Byte{V: 0x80, T: 0x82}},
		{taint.Of(0), api.Byte{V: 1, T: 1}, api.Byte{T: 0x02}},
		// one that is none, whatever is secret
		{taint.Of(0), api.Byte{V: 3, T: 1}, taint.Of(0)},
		{taint.Of(0), api.Byte{V: 0x81, T: 0x80}, api.Byte{V: 0x80, T: 0x80}},
	} {
		if q := flags.Told(c.p, c.a); q != c.want {
			t.Errorf("Told(%v, %v): %v, not %v", c.p, c.a, q, c.want)
		}
	}
}

// P3.1
func TestToldOfAllBytes(t *testing.T) {
	registers(func(a api.Byte) {
		zero := api.Bit{V: a.V == 0, T: a.T != 0 && a.V&^a.T == 0}
		for _, p := range []api.Byte{{}, {V: 0xff}, {V: 0x24, T: 0xdb}, {V: 0x5a, T: 0xc3}, {V: 0xff, T: 0xff}} {
			want := put(put(p, 7, api.Bit{V: has(a.V, 7), T: has(a.T, 7)}), 1, zero)
			if q := flags.Told(p, a); q != want {
				t.Fatalf("Told(%v, %v): %v, not %v", p, a, q, want)
			}
		}
	})
}

// P3.1
func TestToldOfAllRegisters(t *testing.T) {
	registers(func(p api.Byte) {
		for _, a := range []api.Byte{{}, {V: 0x80}, {V: 1, T: 1}, {V: 0x80, T: 0xff}} {
			q := flags.Told(p, a)
			if q.V&^0x82 != p.V&^0x82 || q.T&^0x82 != p.T&^0x82 {
				t.Fatalf("Told(%v, %v): %v", p, a, q)
			}
			if taint.Bit(q, 7) != taint.Bit(a, 7) || taint.Bit(q, 1) != taint.Zero(a) {
				t.Fatalf("Told(%v, %v): %v", p, a, q)
			}
		}
	})
}

// P3.1
func TestPushed(t *testing.T) {
	registers(func(p api.Byte) {
		want := api.Byte{V: p.V&0xcf | 0x20, T: p.T & 0xcf}
		if a := flags.Pushed(p, false); a != want {
			t.Fatalf("Pushed(%v, false): %v, not %v", p, a, want)
		}
		want.V |= 0x10
		if a := flags.Pushed(p, true); a != want {
			t.Fatalf("Pushed(%v, true): %v, not %v", p, a, want)
		}
	})
}

// P3.1
func TestPulled(t *testing.T) {
	registers(func(a api.Byte) {
		want := api.Byte{V: a.V&0xcf | 0x20, T: a.T & 0xcf}
		if p := flags.Pulled(a); p != want {
			t.Fatalf("Pulled(%v): %v, not %v", a, p, want)
		}
	})
}

// wantText is a register's letters by the chapter's words.
func wantText(p api.Byte) string {
	var s []byte
	for i := 7; i >= 0; i-- {
		switch {
		case has(p.T, i):
			s = append(s, '?')
		case has(p.V, i):
			s = append(s, great[7-i])
		default:
			s = append(s, small[7-i])
		}
	}
	return string(s)
}

// P3.2
func TestTextOfExamples(t *testing.T) {
	for _, c := range []struct {
		p    api.Byte
		want string
	}{
		{api.Byte{V: 3, T: 128}, "?vobdiZC"},
		{taint.Of(0), small},
		{taint.Of(0xff), great},
		{taint.Of(0x01), "nvobdizC"},
		{taint.Of(0x02), "nvobdiZc"},
		{taint.Of(0x04), "nvobdIzc"},
		{taint.Of(0x08), "nvobDizc"},
		{taint.Of(0x10), "nvoBdizc"},
		{taint.Of(0x20), "nvObdizc"},
		{taint.Of(0x40), "nVobdizc"},
		{taint.Of(0x80), "Nvobdizc"},
		{api.Byte{V: 0xff, T: 0xff}, "????????"},
		{api.Byte{T: 0xff}, "????????"},
		{api.Byte{V: 0x0f, T: 0x3c}, "nv????ZC"},
	} {
		if s := flags.Text(c.p); s != c.want {
			t.Errorf("Text(%v): %q, not %q", c.p, s, c.want)
		}
	}
}

// P3.2
func TestTextOfAllRegisters(t *testing.T) {
	registers(func(p api.Byte) {
		if s := flags.Text(p); s != wantText(p) {
			t.Fatalf("Text(%v): %q, not %q", p, s, wantText(p))
		}
	})
}

// P3.2
func TestParseOfExamples(t *testing.T) {
	for _, c := range []struct {
		s    string
		want api.Byte
	}{
		{small, taint.Of(0)},
		{great, taint.Of(0xff)},
		{"?vobdiZC", api.Byte{V: 3, T: 128}},
		{"????????", api.Byte{T: 0xff}},
		{"NV?bdi?c", api.Byte{V: 0xc0, T: 0x22}},
		{"nvObdIz?", api.Byte{V: 0x24, T: 0x01}},
	} {
		if p, e := flags.Parse(c.s); p != c.want || e != api.OK {
			t.Errorf("Parse(%q): %v, %v, not %v", c.s, p, e, c.want)
		}
	}
}

// P3.2
func TestParseOfWrongTexts(t *testing.T) {
	for _, s := range []string{
		"", "?", "N", "nvobdiz", "vobdizc", "nvobdizcc", "nvobdizc ", " nvobdizc", "nvobdizc\n", "nvobdizc?", "?nvobdizc",
		"????????????????", great + small, "???????", "?????????", "nvobdizcnvobdizcnvobdizc",
		"vnobdizc", "czidbovn", "CZIDBOVN", "nvobdicz", "nnnnnnnn", "nv1bdizc", "nvxbdizc", "nv-bdizc", "nv0bdizc",
		"nv\x00bdizc", "nv\xffbdizc", "\xff\xff\xff\xff\xff\xff\xff\xff", "nvobdiz\xe9", "nvobdi\u00e9", "\u00e9obdizc",
		// runes whose last bytes are the letters'
		"\u014evobdizc", "\u014evobdiz", "\u014eobdizc", "\u016eobdizc", "\u203fbdizc", "\u013f\u014f\u0144\u017a", "nvob\u0144izc", "nvobdi\u017a",
		// letters that are folded to others, and what is beside them
		"nvobd\u0130zc", "nvobd\u0131z", "nvobdizb", "nvobdizd", "@vobdizc", ">vobdizc", "nvobdiz\x03", "nvobdiz\xc3",
	} {
		if p, e := flags.Parse(s); p != (api.Byte{}) || e != api.ErrForm {
			t.Errorf("Parse(%q): %v, %v", s, p, e)
		}
	}
}

// P3.2
func TestParseOfEachByteInEachPlace(t *testing.T) {
	for _, from := range []string{small, great, "????????", "?vobdiZC"} {
		base, e := flags.Parse(from)
		if e != api.OK {
			t.Fatalf("Parse(%q): %v", from, e)
		}
		for at := range 8 {
			for b := range 256 {
				s := from[:at] + string([]byte{byte(b)}) + from[at+1:]
				want, wrong := base, api.OK
				switch byte(b) {
				case great[at]:
					want = put(base, 7-at, api.Bit{V: true})
				case small[at]:
					want = put(base, 7-at, api.Bit{})
				case '?':
					want = put(base, 7-at, api.Bit{T: true})
				default:
					want, wrong = api.Byte{}, api.ErrForm
				}
				if p, e := flags.Parse(s); p != want || e != wrong {
					t.Fatalf("Parse(%q): %v, %v, not %v, %v", s, p, e, want, wrong)
				}
			}
		}
	}
}

// P3.3
func TestParseOfText(t *testing.T) {
	registers(func(p api.Byte) {
		// What secrets are is lost: they are 0.
		want := api.Byte{V: p.V &^ p.T, T: p.T}
		q, e := flags.Parse(flags.Text(p))
		if q != want || e != api.OK || !taint.Same(p, q) {
			t.Fatalf("Parse(Text(%v)): %v, %v, not %v", p, q, e, want)
		}
	})
}

// P3.3
func TestPulledOfPushed(t *testing.T) {
	registers(func(p api.Byte) {
		for _, brk := range []bool{false, true} {
			if q := flags.Pulled(flags.Pushed(p, brk)); q != flags.Pulled(p) {
				t.Fatalf("Pulled(Pushed(%v, %v)): %v, not %v", p, brk, q, flags.Pulled(p))
			}
		}
	})
}

// P3.3
func TestTextOfRegistersThatAreTheSame(t *testing.T) {
	texts := map[string]api.Byte{}
	registers(func(p api.Byte) {
		s := flags.Text(p)
		q, is := texts[s]
		if is && !taint.Same(p, q) {
			t.Fatalf("Text(%v) and Text(%v): %q", p, q, s)
		}
		texts[s] = p
		for _, other := range []byte{0x5a, 0xa5, 0xff} {
			twin := api.Byte{V: p.V ^ other&p.T, T: p.T}
			if flags.Text(twin) != s {
				t.Fatalf("Text(%v): %q, but Text(%v): %q", p, s, twin, flags.Text(twin))
			}
		}
	})
	// Each of the eight bits is 0, 1, or secret.
	if len(texts) != 6561 {
		t.Error(len(texts))
	}
}
