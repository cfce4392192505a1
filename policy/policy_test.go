package policy_test

import (
	"math"
	"reflect"
	"slices"
	"testing"

	"cochineal/api"
	"cochineal/policy"
)

func span(from, to int, bits byte) policy.Span {
	return policy.Span{From: from, To: to, Bits: bits}
}

// of is a policy of spans alone, that is else as it may be.
func of(secrets, sinks []policy.Span) policy.Policy {
	return policy.Policy{Secrets: secrets, Sinks: sinks, Trace: 1024}
}

// singles are so many spans of an address each, from one on.
func singles(from, n int) []policy.Span {
	var l []policy.Span
	for i := range n {
		l = append(l, span(from+i, from+i, 255))
	}
	return l
}

// mayLie tells by the chapter's words whether a span may be where it is.
func mayLie(s policy.Span, isSink bool) bool {
	inRAM := 0 <= s.From && s.From <= 32767 && 0 <= s.To && s.To <= 32767
	inROM := 49152 <= s.From && s.From <= 65535 && 49152 <= s.To && s.To <= 65535
	return (inRAM || inROM && !isSink) && s.From <= s.To
}

// owners tells of addresses which kinds of spans have them.
type owners map[int]map[bool]bool

// add is what is wrong with one more span by the chapter's words, the n-th of all.
func (o owners) add(s policy.Span, isSink bool, n int) api.Errno {
	if !mayLie(s, isSink) || s.Bits == 0 {
		return api.ErrRange
	}
	if n > 64 {
		return api.ErrFull
	}
	own, other := false, false
	for a := s.From; a <= s.To; a++ {
		own = own || o[a][isSink]
		other = other || o[a][!isSink]
	}
	if own {
		return api.ErrThere
	}
	if other {
		return api.ErrKind
	}
	for a := s.From; a <= s.To; a++ {
		o[a] = map[bool]bool{isSink: true}
	}
	return api.OK
}

// checkOracle is Check by the chapter's words, written otherwise.
func checkOracle(p policy.Policy) api.Errno {
	o := owners{}
	for i, s := range slices.Concat(p.Secrets, p.Sinks) {
		if e := o.add(s, i >= len(p.Secrets), i+1); e != api.OK {
			return e
		}
	}
	if p.Declassify < 0 || p.Declassify > 1000 || p.Trace < 1 || p.Trace > 4096 {
		return api.ErrRange
	}
	return api.OK
}

func checks(t *testing.T, p policy.Policy, want api.Errno) {
	t.Helper()
	if e := policy.Check(p); e != want {
		t.Errorf("Check(%.200v): %v, not %v", p, e, want)
	}
}

// P7.1
func TestLimits(t *testing.T) {
	if policy.MaxSpans != 64 || policy.MaxDeclassify != 1000 || policy.MaxTrace != 4096 || policy.Trace != 1024 {
		t.Error(policy.MaxSpans, policy.MaxDeclassify, policy.MaxTrace, policy.Trace)
	}
}

// P7.1
func TestCheckOfOneSpan(t *testing.T) {
	edges := []int{math.MinInt, -65536, -1, 0, 1, 255, 256, 32766, 32767, 32768, 40000, 49151, 49152, 49153, 65534, 65535, 65536, 1 << 32, math.MaxInt}
	for _, from := range edges {
		for _, to := range edges {
			for _, bits := range []byte{0, 1, 128, 254, 255} {
				l := []policy.Span{span(from, to, bits)}
				for _, isSink := range []bool{false, true} {
					want := api.OK
					if !mayLie(l[0], isSink) || bits == 0 {
						want = api.ErrRange
					}
					if isSink {
						checks(t, of(nil, l), want)
					} else {
						checks(t, of(l, nil), want)
					}
				}
			}
		}
	}
}

// P7.1
func TestCheckOfNumbers(t *testing.T) {
	for _, n := range []int{math.MinInt, -1, 0, 1, 2, 999, 1000, 1001, 1024, 4095, 4096, 4097, 65536, math.MaxInt} {
		for _, m := range []int{math.MinInt, -1, 0, 1, 2, 1000, 1001, 1024, 4095, 4096, 4097, 65536, math.MaxInt} {
			want := api.OK
			if n < 0 || n > 1000 || m < 1 || m > 4096 {
				want = api.ErrRange
			}
			checks(t, policy.Policy{Declassify: n, Trace: m}, want)
		}
	}
}

// few are spans of which some have an address both, and some may not be.
var few = []policy.Span{span(10, 20, 255), span(20, 30, 1), span(21, 21, 15), span(9, 9, 240), span(0, 300, 8), span(12, 13, 2), span(50000, 50001, 1), span(50001, 50100, 255), span(5, 4, 1), span(3, 3, 0), span(32767, 32768, 255)}

// P7.1
func TestCheckTellsTheFirst(t *testing.T) {
	seen := map[api.Errno]int{}
	for _, a := range few {
		for _, b := range few {
			for _, c := range few {
				l := []policy.Span{a, b, c}
				for cut := range 4 {
					p := of(l[:cut], l[cut:])
					want := checkOracle(p)
					seen[want]++
					checks(t, p, want)
					p.Trace = 0
					if want == api.OK {
						want = api.ErrRange
					}
					checks(t, p, want) // Trace comes last
				}
			}
		}
	}
	for _, e := range []api.Errno{api.OK, api.ErrRange, api.ErrThere, api.ErrKind} {
		if seen[e] < 100 {
			t.Error(e, seen[e])
		}
	}
}

// P7.1
func TestCheckOfBothKindsAtOnce(t *testing.T) {
	// A sink that meets a sink and a secret is told of its own kind, wherever they stand.
	checks(t, of([]policy.Span{span(1, 9, 1)}, []policy.Span{span(10, 19, 1), span(9, 10, 1)}), api.ErrThere)
	checks(t, of([]policy.Span{span(1, 9, 1)}, []policy.Span{span(10, 19, 1), span(9, 9, 1)}), api.ErrKind)
	checks(t, of([]policy.Span{span(1, 9, 1)}, []policy.Span{span(10, 19, 1), span(19, 20, 1)}), api.ErrThere)
	checks(t, of([]policy.Span{span(1, 9, 1)}, []policy.Span{span(10, 19, 1), span(20, 20, 1)}), api.OK)
	// Other bits of an address are the same address.
	checks(t, of([]policy.Span{span(1, 1, 15), span(1, 1, 240)}, nil), api.ErrThere)
	checks(t, of([]policy.Span{span(1, 1, 15)}, []policy.Span{span(1, 1, 240)}), api.ErrKind)
}

// P7.1
func TestCheckOfManySpans(t *testing.T) {
	checks(t, of(singles(0, 64), nil), api.OK)
	checks(t, of(nil, singles(0, 64)), api.OK)
	checks(t, of(singles(0, 32), singles(32, 32)), api.OK)
	checks(t, of(singles(65535-63, 64), nil), api.OK)
	checks(t, of(singles(0, 65), nil), api.ErrFull)
	checks(t, of(nil, singles(0, 65)), api.ErrFull)
	checks(t, of(singles(0, 64), singles(64, 1)), api.ErrFull)
	checks(t, of(singles(0, 1), singles(1, 64)), api.ErrFull)
	checks(t, of(singles(0, 30000), nil), api.ErrFull)

	with := func(l []policy.Span, more ...policy.Span) []policy.Span { return append(slices.Clone(l), more...) }
	checks(t, of(with(singles(0, 64), span(0, 0, 255)), nil), api.ErrFull) // ahead of ErrThere
	checks(t, of(singles(0, 64), singles(0, 1)), api.ErrFull)              // ahead of ErrKind
	checks(t, of(with(singles(0, 64), span(100, 100, 0)), nil), api.ErrRange)
	checks(t, of(singles(0, 64), []policy.Span{span(50000, 50000, 1)}), api.ErrRange)
	checks(t, of(with(singles(0, 64), span(100, 100, 1), span(100, 100, 0)), nil), api.ErrFull)
	checks(t, of(with(singles(0, 63), span(62, 62, 255)), nil), api.ErrThere)
	checks(t, of(singles(0, 63), singles(62, 2)), api.ErrKind)
	full := of(singles(0, 65), nil)
	full.Declassify = -1
	checks(t, full, api.ErrFull)
	full.Secrets = full.Secrets[:64]
	checks(t, full, api.ErrRange)
}

// P7.1
func TestSorted(t *testing.T) {
	p := policy.Policy{
		Secrets:    []policy.Span{span(9, 9, 1), span(-5, 0, 0), span(70000, 3, 9), span(9, 1, 2), span(0, 0, 7), span(9, 9, 0), span(math.MinInt, 0, 1), span(math.MaxInt, 0, 1)},
		Sinks:      []policy.Span{span(3, 7, 4), span(2, 9, 3), span(3, 1, 5), span(1, 1, 1)},
		Declassify: -7,
		Trace:      math.MaxInt,
	}
	want := policy.Policy{
		Secrets:    []policy.Span{span(math.MinInt, 0, 1), span(-5, 0, 0), span(0, 0, 7), span(9, 9, 1), span(9, 1, 2), span(9, 9, 0), span(70000, 3, 9), span(math.MaxInt, 0, 1)},
		Sinks:      []policy.Span{span(1, 1, 1), span(2, 9, 3), span(3, 7, 4), span(3, 1, 5)},
		Declassify: -7,
		Trace:      math.MaxInt,
	}
	if q := policy.Sorted(p); !reflect.DeepEqual(q, want) {
		t.Errorf("%v, not %v", q, want)
	}
	if q := policy.Sorted(want); !reflect.DeepEqual(q, want) {
		t.Errorf("%v, not %v", q, want)
	}
	if q := policy.Sorted(policy.Policy{}); len(q.Secrets) != 0 || len(q.Sinks) != 0 || q.Declassify != 0 || q.Trace != 0 {
		t.Error(q)
	}
}

// P7.1
func TestSortedKeepsTheOrderOfOneAddress(t *testing.T) {
	var p policy.Policy
	for i := range 2000 {
		p.Secrets = append(p.Secrets, span(i%3, i, 1))
		p.Sinks = append(p.Sinks, span(-i%2, i, 1))
	}
	q := policy.Sorted(p)
	for _, l := range [][]policy.Span{q.Secrets, q.Sinks} {
		if len(l) != 2000 {
			t.Fatal(len(l))
		}
		for i := range 1999 {
			if a, b := l[i], l[i+1]; a.From > b.From || a.From == b.From && a.To >= b.To {
				t.Fatal(i, a, b)
			}
		}
	}
}

// P7.1, R2
func TestWhatIsHandedInStays(t *testing.T) {
	room := []policy.Span{span(9, 9, 1), span(5, 5, 1), span(7, 7, 1), span(3, 3, 1), span(1, 1, 1)}
	kept := slices.Clone(room)
	p := of(room[:2], room[2:4])
	q := policy.Sorted(p)
	policy.Same(p, q)
	policy.Check(p)
	if _, e := policy.Print(p); e != api.OK || !slices.Equal(room, kept) {
		t.Error(e, room)
	}
	for i := range q.Secrets {
		q.Secrets[i] = policy.Span{}
		q.Sinks[i] = policy.Span{}
	}
	_ = append(q.Secrets, span(4, 4, 4))
	_ = append(q.Sinks, span(4, 4, 4))
	if !slices.Equal(room, kept) || !slices.Equal(q.Sinks, make([]policy.Span, 2)) {
		t.Error(room, q)
	}
}

// P7.1
func TestSame(t *testing.T) {
	a, b, c := span(1, 1, 1), span(2, 2, 2), span(2, 3, 4)
	base := policy.Policy{Secrets: []policy.Span{a, b}, Sinks: []policy.Span{a, c}, Declassify: 3, Trace: 4}
	for i, x := range []struct {
		p    policy.Policy
		same bool
	}{
		{base, true},
		{policy.Policy{Secrets: []policy.Span{b, a}, Sinks: []policy.Span{c, a}, Declassify: 3, Trace: 4}, true},
		{policy.Policy{Secrets: []policy.Span{a, c}, Sinks: []policy.Span{a, b}, Declassify: 3, Trace: 4}, false},
		{policy.Policy{Secrets: []policy.Span{a}, Sinks: []policy.Span{a, c}, Declassify: 3, Trace: 4}, false},
		{policy.Policy{Secrets: []policy.Span{a, b}, Sinks: []policy.Span{a}, Declassify: 3, Trace: 4}, false},
		{policy.Policy{Secrets: []policy.Span{a, b, b}, Sinks: []policy.Span{a, c}, Declassify: 3, Trace: 4}, false},
		{policy.Policy{Secrets: []policy.Span{a, span(2, 2, 3)}, Sinks: []policy.Span{a, c}, Declassify: 3, Trace: 4}, false},
		{policy.Policy{Secrets: []policy.Span{a, b}, Sinks: []policy.Span{a, span(2, 4, 4)}, Declassify: 3, Trace: 4}, false},
		{policy.Policy{Secrets: []policy.Span{a, b}, Sinks: []policy.Span{a, span(0, 3, 4)}, Declassify: 3, Trace: 4}, false},
		{policy.Policy{Secrets: []policy.Span{a, b}, Sinks: []policy.Span{a, c}, Declassify: 2, Trace: 4}, false},
		{policy.Policy{Secrets: []policy.Span{a, b}, Sinks: []policy.Span{a, c}, Declassify: 3, Trace: 5}, false},
		{policy.Policy{}, false},
	} {
		if policy.Same(base, x.p) != x.same || policy.Same(x.p, base) != x.same || !policy.Same(x.p, x.p) {
			t.Error(i, x.p)
		}
	}
	none := policy.Policy{Secrets: []policy.Span{}, Sinks: []policy.Span{}}
	if !policy.Same(none, policy.Policy{}) || !policy.Same(policy.Policy{}, none) {
		t.Error("no spans are not the same as none")
	}
	// Of the same From the order stays, so that it tells.
	if policy.Same(of([]policy.Span{b, c}, nil), of([]policy.Span{c, b}, nil)) {
		t.Error("another order of the same From is the same")
	}
	if !policy.Same(of([]policy.Span{b, c, a}, nil), of([]policy.Span{a, b, c}, nil)) {
		t.Error("the same order of the same From is not the same")
	}
}
