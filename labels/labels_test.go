package labels_test

import (
	"math"
	"slices"
	"testing"

	"cochineal/api"
	"cochineal/labels"
	"cochineal/policy"
)

func span(from, to int, bits byte) policy.Span {
	return policy.Span{From: from, To: to, Bits: bits}
}

// of is a policy of spans alone, that is else as it may be.
func of(secrets, sinks []policy.Span) policy.Policy {
	return policy.Policy{Secrets: secrets, Sinks: sinks, Trace: 1024}
}

// singles are so many spans of an address each, from one on, down, of all kinds of bits.
func singles(from, n int) []policy.Span {
	var l []policy.Span
	for i := range n {
		l = append(l, span(from-i, from-i, byte(i*37+1)))
	}
	return l
}

// right are policies that may be, most of them not sorted.
var right = map[string]policy.Policy{
	"none":     {Trace: 1},
	"empty":    {Secrets: []policy.Span{}, Sinks: []policy.Span{}, Declassify: 1000, Trace: 4096},
	"example":  of([]policy.Span{span(16, 17, 3)}, nil),
	"sinks":    of(nil, []policy.Span{span(768, 770, 255), span(0, 2, 240), span(32767, 32767, 1)}),
	"both":     {Secrets: []policy.Span{span(65534, 65535, 255), span(5, 6, 1)}, Sinks: []policy.Span{span(0, 2, 240)}, Declassify: 3, Trace: 9},
	"touching": of([]policy.Span{span(21, 30, 2), span(10, 20, 1), span(41, 41, 128)}, []policy.Span{span(31, 40, 4), span(42, 42, 8), span(9, 9, 16)}),
	"whole":    of([]policy.Span{span(49152, 65535, 129), span(0, 32767, 126)}, nil),
	"sink all": of([]policy.Span{span(49152, 65535, 1)}, []policy.Span{span(0, 32767, 254)}),
	"ends":     of([]policy.Span{span(65535, 65535, 8), span(49152, 49152, 4), span(32767, 32767, 2), span(0, 0, 1)}, []policy.Span{span(32766, 32766, 32), span(1, 1, 16)}),
	"64":       of(singles(60000, 64), nil),
	"64 sinks": of(nil, singles(200, 64)),
	"32 each":  of(singles(100, 32), singles(300, 32)),
}

// wrong are policies that may not be.
var wrong = map[string]policy.Policy{
	"zero":            {},
	"trace":           {Trace: 4097},
	"trace below":     {Trace: -1},
	"declassify":      {Declassify: 1001, Trace: 1},
	"declassify less": {Declassify: -1, Trace: 1},
	"no bits":         of([]policy.Span{span(5, 5, 0)}, nil),
	"no bits of sink": of(nil, []policy.Span{span(5, 5, 0)}),
	"turned":          of([]policy.Span{span(6, 5, 1)}, nil),
	"below":           of([]policy.Span{span(-1, 5, 1)}, nil),
	"beyond":          of([]policy.Span{span(65535, 65536, 1)}, nil),
	"far":             of([]policy.Span{span(math.MinInt, math.MaxInt, 1)}, nil),
	"device":          of([]policy.Span{span(32767, 32768, 1)}, nil),
	"free":            of([]policy.Span{span(40000, 40000, 1)}, nil),
	"into ROM":        of([]policy.Span{span(49151, 49152, 1)}, nil),
	"sink in ROM":     of(nil, []policy.Span{span(50000, 50000, 1)}),
	"65":              of(singles(60000, 65), nil),
	"65 of both":      of(singles(60000, 33), singles(200, 32)),
	"there":           of([]policy.Span{span(5, 9, 1), span(9, 12, 2)}, nil),
	"there of sinks":  of(nil, []policy.Span{span(5, 9, 1), span(1, 5, 2)}),
	"other kind":      of([]policy.Span{span(5, 9, 1)}, []policy.Span{span(7, 7, 2)}),
}

// edges are addresses at both ends of each kind, some within, and some that are none.
var edges = []int{
	math.MinInt, math.MinInt + 1, -1 << 32, -65536, -65535, -32768, -2, -1,
	0, 1, 2, 3, 5, 6, 7, 255, 256, 32766, 32767,
	32768, 32776, 32783, 32784, 40000, 49151,
	49152, 49153, 60000, 65534, 65535,
	65536, 65537, 65541, 131072, 131077, 1 << 32, 1<<32 + 5, math.MaxInt - 1, math.MaxInt,
}

// bitsAt are those of the span in which an address lies, by the chapter's words.
func bitsAt(l []policy.Span, at int) byte {
	for _, s := range l {
		if s.From <= at && at <= s.To {
			return s.Bits
		}
	}
	return 0
}

// table is that of a policy that may be.
func table(t *testing.T, p policy.Policy) *labels.Table {
	t.Helper()
	x, e := labels.New(p)
	if x == nil || e != api.OK {
		t.Fatalf("New(%.200v): %v", p, e)
	}
	return x
}

// told is an address and bits.
type told struct {
	at   int
	bits byte
}

// gather is all that All tells.
func gather(x *labels.Table) []told {
	var l []told
	for at, bits := range x.All() {
		l = append(l, told{at, bits})
	}
	return l
}

// allOf is what All has to tell of spans.
func allOf(secrets []policy.Span) []told {
	var l []told
	for _, s := range secrets {
		for at := s.From; at <= s.To; at++ {
			l = append(l, told{at, s.Bits})
		}
	}
	slices.SortFunc(l, func(a, b told) int { return a.at - b.at })
	return l
}

// equal tells whether two policies are the same, in order too.
func equal(p, q policy.Policy) bool {
	return slices.Equal(p.Secrets, q.Secrets) && slices.Equal(p.Sinks, q.Sinks) && p.Declassify == q.Declassify && p.Trace == q.Trace
}

// holds tells whether a table is as a policy's, at all addresses, and at some that are none.
func holds(t *testing.T, x *labels.Table, p policy.Policy) {
	t.Helper()
	for at := -3; at < 65540; at++ {
		secret, sink := bitsAt(p.Secrets, at), bitsAt(p.Sinks, at)
		if x.Secret(at) != secret || x.Sink(at) != sink {
			t.Fatalf("at %d: %d and %d, not %d and %d", at, x.Secret(at), x.Sink(at), secret, sink)
		}
		b := api.Byte{V: byte(at * 3), T: byte(at*7 + 1)}
		if n := x.Leaks(at, b); n != b.T&sink {
			t.Fatalf("Leaks(%d, %v): %d, not %d", at, b, n, b.T&sink)
		}
	}
	if l, want := gather(x), allOf(p.Secrets); !slices.Equal(l, want) {
		t.Fatalf("All: %.200v, not %.200v", l, want)
	}
	if q := x.Policy(); !equal(q, policy.Sorted(p)) {
		t.Fatalf("Policy: %.200v, not %.200v, sorted", q, p)
	}
}

// P9.1
func TestNewOfWhatMayBe(t *testing.T) {
	for name, p := range right {
		t.Run(name, func(t *testing.T) { holds(t, table(t, p), p) })
	}
}

// P9.1
func TestNewOfWhatMayNotBe(t *testing.T) {
	seen := map[api.Errno]int{}
	for name, p := range wrong {
		x, e := labels.New(p)
		if want := policy.Check(p); x != nil || e != want || e == api.OK {
			t.Errorf("%s: %v, %v, not %v", name, x != nil, e, want)
		}
		seen[e]++
	}
	for _, e := range []api.Errno{api.ErrRange, api.ErrFull, api.ErrThere, api.ErrKind} {
		if seen[e] == 0 {
			t.Errorf("no policy of %v", e)
		}
	}
}

// P9.1
func TestOfAddressesThatAreNone(t *testing.T) {
	for name, p := range right {
		x := table(t, p)
		for _, at := range edges {
			secret, sink := x.Secret(at), x.Sink(at)
			if secret != bitsAt(p.Secrets, at) || sink != bitsAt(p.Sinks, at) {
				t.Errorf("%s at %d: %d and %d", name, at, secret, sink)
			}
			if b := (api.Byte{V: 255, T: 255}); x.Leaks(at, b) != sink {
				t.Errorf("%s at %d: %d leaks", name, at, x.Leaks(at, b))
			}
		}
	}
}

// P9.1
func TestAllBitsOfSpans(t *testing.T) {
	for n := 1; n < 256; n++ {
		x := table(t, of([]policy.Span{span(100, 101, byte(n))}, []policy.Span{span(102, 103, byte(256-n))}))
		for i, want := range []struct{ secret, sink byte }{{0, 0}, {byte(n), 0}, {byte(n), 0}, {0, byte(256 - n)}, {0, byte(256 - n)}, {0, 0}} {
			if at := 99 + i; x.Secret(at) != want.secret || x.Sink(at) != want.sink {
				t.Errorf("bits %d at %d: %d and %d, not %v", n, at, x.Secret(at), x.Sink(at), want)
			}
		}
	}
}

// P9.1
func TestLeaksOfAllBytes(t *testing.T) {
	for _, bits := range []byte{1, 128, 15, 240, 90, 255} {
		x := table(t, of([]policy.Span{span(100, 100, 255)}, []policy.Span{span(200, 200, bits)}))
		for secret := range 256 {
			for _, v := range []byte{0, 1, 85, 128, 255} {
				b := api.Byte{V: v, T: byte(secret)}
				if n := x.Leaks(200, b); n != b.T&bits {
					t.Errorf("%v to a sink of %d: %d", b, bits, n)
				}
				// What is secret itself is no sink, nor is what the policy does not tell of.
				if x.Leaks(100, b) != 0 || x.Leaks(199, b) != 0 || x.Leaks(201, b) != 0 || x.Leaks(-200, b) != 0 || x.Leaks(65536+200, b) != 0 {
					t.Errorf("%v leaks to what is no sink", b)
				}
			}
		}
	}
}

// P9.1
func TestAllEndsWhereItIsLeft(t *testing.T) {
	for name, p := range right {
		x := table(t, p)
		all := allOf(p.Secrets)
		for _, n := range []int{1, 2, 3, 63, 64, len(all) - 1, len(all)} {
			if n < 1 || n > len(all) {
				continue
			}
			var l []told
			for at, bits := range x.All() {
				l = append(l, told{at, bits})
				if len(l) == n {
					break
				}
			}
			if !slices.Equal(l, all[:n]) {
				t.Errorf("%s, left behind %d: %d are told", name, n, len(l))
			}
		}
	}
}

// P9.1
func TestAllMayBeGoneThroughAgain(t *testing.T) {
	x := table(t, right["both"])
	seq, want := x.All(), allOf(right["both"].Secrets)
	for range 2 {
		var l []told
		for at, bits := range seq {
			l = append(l, told{at, bits})
			if len(l) > len(want) {
				break
			}
			if inner := gather(x); !slices.Equal(inner, want) { // also while it is gone through
				t.Error(inner)
			}
		}
		if !slices.Equal(l, want) {
			t.Error(l)
		}
	}
}

// R2
func TestTheTableIsOfItsOwn(t *testing.T) {
	secrets := []policy.Span{span(50, 60, 1), span(5, 6, 2), span(1000, 1000, 4)}
	sinks := []policy.Span{span(80, 90, 8), span(70, 71, 16), span(2000, 2000, 32)}
	p := of(secrets[:2], sinks[:2])
	want := of(slices.Clone(secrets[:2]), slices.Clone(sinks[:2]))
	x := table(t, p)
	if !equal(p, want) || secrets[2] != span(1000, 1000, 4) || sinks[2] != span(2000, 2000, 32) {
		t.Error("what is handed in is turned", secrets, sinks)
	}
	for i := range secrets {
		secrets[i], sinks[i] = span(1, 2, 255), span(3, 4, 255)
	}
	holds(t, x, want)
	q := x.Policy()
	for i := range q.Secrets {
		q.Secrets[i] = span(7, 8, 255)
	}
	for i := range q.Sinks {
		q.Sinks[i] = span(9, 10, 255)
	}
	_ = append(q.Secrets, span(11, 11, 1))
	holds(t, x, want)
}

// P9.1
func TestTablesDoNotTellOfEachOther(t *testing.T) {
	x := table(t, right["ends"])
	y := table(t, right["touching"])
	table(t, right["whole"])
	labels.New(wrong["there"])
	holds(t, x, right["ends"])
	holds(t, y, right["touching"])
}

// P9.1, P9.2
func TestOfNilTables(t *testing.T) {
	var x *labels.Table
	for _, at := range edges {
		if x.Secret(at) != 0 || x.Sink(at) != 0 || x.Leaks(at, api.Byte{V: 255, T: 255}) != 0 {
			t.Error(at)
		}
	}
	if !equal(x.Policy(), policy.Policy{}) {
		t.Error(x.Policy())
	}
	seq := x.All()
	if seq == nil {
		t.Fatal("All is no function")
	}
	for at, bits := range seq {
		t.Error(at, bits)
	}
}

// P9.1 (the chapter's example)
func TestExample(t *testing.T) {
	p, _, e := policy.Parse("secret $10..$11 bits 3\n")
	if e != api.OK {
		t.Fatal(e)
	}
	x := table(t, p)
	if x.Secret(0x11) != 3 || x.Secret(0x12) != 0 {
		t.Error(x.Secret(0x11), x.Secret(0x12))
	}
	if l := gather(x); !slices.Equal(l, []told{{0x10, 3}, {0x11, 3}}) {
		t.Error(l)
	}
}

// numbers is a row of numbers that looks without order, the same one each time.
type numbers uint64

func (n *numbers) next(below int) int {
	*n = *n*6364136223846793005 + 1442695040888963407
	return int(uint64(*n) >> 33 % uint64(below))
}

// some is a policy that may be, of a few spans that come as they come.
func (n *numbers) some() policy.Policy {
	p := policy.Policy{Declassify: n.next(1001), Trace: n.next(4096) + 1}
	for range n.next(20) {
		q := p
		from := n.next(65536)
		s := span(from, from+n.next(3000), byte(n.next(255)+1))
		if n.next(2) == 0 {
			q.Secrets = append(slices.Clone(q.Secrets), s)
		} else {
			q.Sinks = append(slices.Clone(q.Sinks), s)
		}
		if policy.Check(q) == api.OK {
			p = q
		}
	}
	return p
}

// P9.1
func TestOfManyPolicies(t *testing.T) {
	n := numbers(9)
	spans := 0
	for range 60 {
		p := n.some()
		spans += len(p.Secrets) + len(p.Sinks)
		holds(t, table(t, p), p)
	}
	if spans < 200 {
		t.Error("too few spans:", spans)
	}
}
