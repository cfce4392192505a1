package labels_test

import (
	"slices"
	"testing"

	"cochineal/api"
	"cochineal/labels"
	"cochineal/memory"
	"cochineal/policy"
)

// snap is all that is read of a memory.
type snap [65536]api.Byte

func read(t *testing.T, m *memory.Memory) *snap {
	t.Helper()
	var s snap
	for at := range 65536 {
		s[at], _ = m.Read(at)
	}
	return &s
}

// isByte tells whether there is a byte at an address.
func isByte(at int) bool { return at <= 32767 || at >= 49152 }

// filled is a memory whose bytes are told, and not secret.
func filled(t *testing.T) *memory.Memory {
	t.Helper()
	m := memory.New()
	for _, c := range []struct{ at, n int }{{0, 32768}, {49152, 16384}} {
		b := make([]byte, c.n)
		for i := range b {
			b[i] = byte(i*7 + i/256 + 1)
		}
		if e := m.Load(c.at, b); e != api.OK {
			t.Fatal(e)
		}
	}
	return m
}

// dyed is a memory of which many bits are secret, of all kinds of bytes.
func dyed(t *testing.T) *memory.Memory {
	t.Helper()
	m := filled(t)
	for at := range 65536 {
		if isByte(at) {
			if e := m.Label(at, at, byte(at*13+5)); e != api.OK {
				t.Fatal(at, e)
			}
		}
	}
	return m
}

// P9.2
func TestLayTurnsJustWhatThePolicyTells(t *testing.T) {
	for name, p := range right {
		x := table(t, p)
		for kind, m := range map[string]*memory.Memory{"new": memory.New(), "filled": filled(t), "dyed": dyed(t)} {
			was := read(t, m)
			for range 2 { // the second time it is as it was laid already
				if e := x.Lay(m); e != api.OK {
					t.Fatal(name, kind, e)
				}
				for at, b := range read(t, m) {
					want := was[at]
					if bits := bitsAt(p.Secrets, at); bits != 0 {
						want.T = bits
					}
					if b != want {
						t.Fatalf("%s, %s, at %d: %v, not %v", name, kind, at, b, want)
					}
				}
			}
			holds(t, x, p)
		}
	}
}

// P9.2
func TestLayOfTwoPolicies(t *testing.T) {
	m := filled(t)
	was := read(t, m)
	first, second := of([]policy.Span{span(10, 20, 240), span(65530, 65535, 1)}, nil), of([]policy.Span{span(15, 30, 9)}, []policy.Span{span(10, 12, 255)})
	for _, p := range []policy.Policy{first, second} {
		if e := table(t, p).Lay(m); e != api.OK {
			t.Fatal(e)
		}
	}
	for at, b := range read(t, m) {
		want := api.Byte{V: was[at].V, T: bitsAt(first.Secrets, at)}
		if bits := bitsAt(second.Secrets, at); bits != 0 {
			want.T = bits // what the first one told there does not tell any more
		}
		if b != want {
			t.Fatalf("at %d: %v, not %v", at, b, want)
		}
	}
}

// P9.2
func TestLayOfNil(t *testing.T) {
	var x *labels.Table
	m := dyed(t)
	was := m.Clone()
	if x.Lay(m) != api.ErrNil || x.Lay(nil) != api.ErrNil {
		t.Error("of a nil table")
	}
	if *read(t, m) != *read(t, was) {
		t.Error("a nil table turns a memory")
	}
	for name, p := range right {
		if e := table(t, p).Lay(nil); e != api.ErrNil {
			t.Error(name, e)
		}
	}
}

// lows holds what Low tells of two memories, either way.
func lows(t *testing.T, x *labels.Table, m, n *memory.Memory, want bool, where ...any) {
	t.Helper()
	if x.Low(m, n) != want || x.Low(n, m) != want {
		t.Errorf("%v: Low is %v and %v, not %v", where, x.Low(m, n), x.Low(n, m), want)
	}
}

// places are addresses at the ends of the kinds, and of the spans of a policy, where there is a byte.
func places(p policy.Policy) []int {
	l := []int{0, 1, 255, 256, 20000, 32766, 32767, 49152, 49153, 60000, 65534, 65535}
	for i, s := range slices.Concat(p.Secrets, p.Sinks) {
		if i < 8 { // of many spans a few are enough
			l = append(l, s.From-1, s.From, s.To, s.To+1)
		}
	}
	slices.Sort(l)
	return slices.DeleteFunc(slices.Compact(l), func(at int) bool { return at < 0 || at > 65535 || !isByte(at) })
}

// P9.2
func TestLowOfEachBitOfAByte(t *testing.T) {
	for name, p := range right {
		x := table(t, p)
		for _, at := range places(p) {
			m := filled(t)
			a, _ := m.Read(at)
			n := m.Clone()
			for bit := range 8 {
				n.Load(at, []byte{a.V ^ 1<<bit})
				lows(t, x, m, n, bitsAt(p.Secrets, at)>>bit&1 == 1, name, at, bit)
			}
			n.Load(at, []byte{a.V})
			lows(t, x, m, n, true, name, at)
		}
	}
}

// P9.2
func TestLowOfAllBytes(t *testing.T) {
	const bits = 0x35
	x := table(t, of([]policy.Span{span(500, 500, bits)}, nil))
	m, n := memory.New(), memory.New()
	m.Load(500, []byte{0xc6})
	for v := range 256 {
		n.Load(500, []byte{byte(v)})
		if want := (byte(v)^0xc6)&^bits == 0; x.Low(m, n) != want || x.Low(n, m) != want {
			t.Errorf("of 198 and %d Low is not %v", v, want)
		}
	}
}

// P9.2: what memories themselves tell as secret does not count, but the policy alone.
func TestLowGoesByThePolicyAlone(t *testing.T) {
	x := table(t, right["both"])
	m := filled(t)
	n := dyed(t)
	lows(t, x, m, n, true, "other bits are secret")
	n.Write(300, api.Byte{V: 0, T: 255})
	m.Write(300, api.Byte{V: 1, T: 255})
	lows(t, x, m, n, false, "a byte that is secret, but not by the policy")
	n.Write(300, api.Byte{V: 1, T: 0})
	lows(t, x, m, n, true, "a byte that is secret in one alone")
	m.Load(6, []byte{7})
	n.Load(6, []byte{6})
	lows(t, x, m, n, true, "a byte that is not secret, but by the policy")
	if !table(t, right["none"]).Low(n, n) || table(t, right["none"]).Low(m, n) {
		t.Error("without spans each bit counts")
	}
}

// P9.2
func TestLowLooksAtAllAddresses(t *testing.T) {
	p := right["touching"]
	x := table(t, p)
	m := filled(t)
	n := m.Clone()
	for at, bits := range x.All() {
		a, _ := m.Read(at)
		n.Load(at, []byte{a.V ^ bits}) // all that is secret is another one
	}
	lows(t, x, m, n, true, "secrets")
	for at := 0; at < 65536; at += 1021 {
		if !isByte(at) {
			continue
		}
		b, _ := n.Read(at)
		n.Load(at, []byte{b.V ^ 0x40}) // a bit that no span has
		lows(t, x, m, n, false, at)
		n.Load(at, []byte{b.V})
	}
	lows(t, x, m, n, true, "secrets again")
}

// P9.2
func TestLowOfNil(t *testing.T) {
	var none *labels.Table
	m := filled(t)
	for _, x := range []*labels.Table{none, table(t, right["none"]), table(t, right["whole"])} {
		if x.Low(nil, m) || x.Low(m, nil) || x.Low(nil, nil) {
			t.Error("of a nil memory")
		}
	}
	if none.Low(m, m) {
		t.Error("of a nil table")
	}
}

// R2
func TestLowTurnsNothing(t *testing.T) {
	x := table(t, right["both"])
	m, n := dyed(t), filled(t)
	a, b := *read(t, m), *read(t, n)
	x.Low(m, n)
	if *read(t, m) != a || *read(t, n) != b {
		t.Error("a memory is turned")
	}
	holds(t, x, right["both"])
}

// P9.3
func TestBehindLayMemoryTellsWhatAllTells(t *testing.T) {
	n := numbers(93)
	policies := []policy.Policy{}
	for range 30 {
		policies = append(policies, n.some())
	}
	for _, p := range right {
		policies = append(policies, p)
	}
	for _, p := range policies {
		x := table(t, p)
		for _, m := range []*memory.Memory{memory.New(), filled(t)} {
			was := read(t, m)
			if e := x.Lay(m); e != api.OK {
				t.Fatal(e)
			}
			var l []told
			for at, b := range m.Secret() {
				l = append(l, told{at, b.T})
			}
			if !slices.Equal(l, gather(x)) {
				t.Fatalf("of %.200v memory tells %d bytes, not %d", p, len(l), len(gather(x)))
			}
			for at, b := range read(t, m) {
				if b.V != was[at].V {
					t.Fatalf("of %.200v V at %d is %d, not %d", p, at, b.V, was[at].V)
				}
			}
		}
	}
}

// P9.3
func TestLowOfOneTwoAndThree(t *testing.T) {
	p := of([]policy.Span{span(500, 510, 0x0f), span(50000, 50000, 0xf0)}, []policy.Span{span(600, 600, 255)})
	x := table(t, p)
	n := numbers(94)
	all := []*memory.Memory{memory.New(), filled(t), dyed(t)}
	for range 12 {
		m := all[n.next(len(all))].Clone()
		at := []int{500, 505, 510, 511, 600, 50000}[n.next(6)]
		b, _ := m.Read(at)
		m.Load(at, []byte{b.V ^ []byte{0x01, 0x08, 0x10, 0x80}[n.next(4)]})
		m.Label(at, at, byte(n.next(256)))
		all = append(all, m)
	}
	low := map[[2]int]bool{}
	for i := range all {
		for k := range all {
			low[[2]int{i, k}] = x.Low(all[i], all[k])
		}
	}
	yes, no := 0, 0
	for i := range all {
		if !low[[2]int{i, i}] {
			t.Error("not of itself:", i)
		}
		for k := range all {
			if low[[2]int{i, k}] != low[[2]int{k, i}] {
				t.Error("not either way:", i, k)
			}
			for l := range all {
				if low[[2]int{i, k}] && low[[2]int{k, l}] {
					yes++
					if !low[[2]int{i, l}] {
						t.Error("not of three:", i, k, l)
					}
				} else {
					no++
				}
			}
		}
	}
	if yes < 4*len(all) || no < 4*len(all) {
		t.Error("too few of a kind:", yes, no)
	}
}

// P9.3
func TestLowDoesNotCountSecrets(t *testing.T) {
	n := numbers(95)
	for range 10 {
		p := n.some()
		x := table(t, p)
		m := filled(t)
		k := m.Clone()
		for at, bits := range x.All() {
			b, _ := k.Read(at)
			k.Load(at, []byte{b.V ^ byte(n.next(256))&bits})
		}
		lows(t, x, m, k, true, p)
		x.Lay(m)
		lows(t, x, m, k, true, p)
		x.Lay(k)
		lows(t, x, m, k, true, p)
		// Laid out, such memories are the same but for secrets, as memory tells it.
		if !memory.Same(m, k) {
			t.Errorf("of %.200v they are not the same", p)
		}
	}
}
