package memory_test

import (
	"math"
	"slices"
	"testing"

	"cochineal/api"
	"cochineal/memory"
	"cochineal/taint"
)

// edges are addresses at both ends of each kind, some within, and some that are none.
var edges = []int{
	math.MinInt, math.MinInt + 1, -65536, -32768, -2, -1,
	0, 1, 2, 255, 256, 511, 512, 32766, 32767,
	32768, 32769, 32775, 32782, 32783,
	32784, 32785, 40000, 49150, 49151,
	49152, 49153, 65279, 65534, 65535,
	65536, 65537, 98304, 131071, 1 << 32, 1<<32 + 5, math.MaxInt - 1, math.MaxInt,
}

func isRAM(at int) bool     { return at >= 0 && at <= 32767 }
func isDevice(at int) bool  { return at >= 32768 && at <= 32783 }
func isFree(at int) bool    { return at >= 32784 && at <= 49151 }
func isROM(at int) bool     { return at >= 49152 && at <= 65535 }
func isAddress(at int) bool { return isRAM(at) || isDevice(at) || isFree(at) || isROM(at) }

// model is a memory by the chapter's words, written otherwise: it has no bytes but those that were told to it.
type model map[int]api.Byte

// oneKind tells whether each address from one to another is of RAM, or each one of ROM.
func oneKind(from, to int) bool {
	return isRAM(from) && isRAM(to) || isROM(from) && isROM(to)
}

func (m model) load(at int, b []byte) api.Errno {
	last := at
	if len(b) > 0 {
		last = at + (len(b) - 1)
	}
	if !isRAM(at) && !isROM(at) || !oneKind(at, last) {
		return api.ErrRange
	}
	for i := range b {
		m[at+i] = api.Byte{V: b[i], T: 0}
	}
	return api.OK
}

func (m model) label(from, to int, t byte) api.Errno {
	if from > to || !oneKind(from, to) {
		return api.ErrRange
	}
	for at := from; at <= to; at++ {
		m[at] = api.Byte{V: m[at].V, T: t}
	}
	return api.OK
}

func (m model) read(at int) (api.Byte, api.Errno) {
	if !isAddress(at) {
		return api.Byte{}, api.ErrRange
	}
	if isDevice(at) {
		return api.Byte{}, api.ErrKind
	}
	if isFree(at) {
		return api.Byte{V: 255}, api.OK
	}
	return m[at], api.OK
}

func (m model) write(at int, b api.Byte) api.Errno {
	if !isAddress(at) {
		return api.ErrRange
	}
	if isDevice(at) {
		return api.ErrKind
	}
	if isRAM(at) {
		m[at] = b
	}
	return api.OK
}

// told is an address and a byte.
type told struct {
	at int
	b  api.Byte
}

func (m model) secret() []told {
	var l []told
	for at := range 65536 {
		if m[at].T != 0 {
			l = append(l, told{at, m[at]})
		}
	}
	return l
}

// gather is all that an iterator tells.
func gather(m *memory.Memory) []told {
	var l []told
	for at, b := range m.Secret() {
		l = append(l, told{at, b})
	}
	return l
}

// holds tells whether a memory is as a model, at all addresses, and at some that are none.
func holds(t *testing.T, m *memory.Memory, want model) {
	t.Helper()
	for at := -3; at < 65540; at++ {
		b, e := m.Read(at)
		if w, f := want.read(at); b != w || e != f {
			t.Fatalf("Read(%d): %v, %v, not %v, %v", at, b, e, w, f)
		}
	}
	if l, w := gather(m), want.secret(); !slices.Equal(l, w) {
		t.Fatalf("Secret: %.300v, not %.300v", l, w)
	}
}

// row is so many bytes, none of them 0, that differ from their neighbours.
func row(n int) []byte {
	b := make([]byte, n)
	for i := range b {
		b[i] = byte(i%251 + 1)
	}
	return b
}

// full is a memory of which each byte of RAM and ROM has been told, many bits being secret, and its model.
func full(t *testing.T) (*memory.Memory, model) {
	t.Helper()
	m, w := memory.New(), model{}
	for _, c := range []struct{ at, n int }{{0, 32768}, {49152, 16384}} {
		if e := m.Load(c.at, row(c.n)); e != api.OK || w.load(c.at, row(c.n)) != api.OK {
			t.Fatal(c, e)
		}
	}
	for _, c := range []struct {
		from, to int
		t        byte
	}{{0, 32767, 0x0f}, {49152, 65535, 0xf0}, {512, 1023, 0}, {50000, 60000, 0}} {
		if e := m.Label(c.from, c.to, c.t); e != api.OK || w.label(c.from, c.to, c.t) != api.OK {
			t.Fatal(c, e)
		}
	}
	return m, w
}

// P8.1
func TestBounds(t *testing.T) {
	if memory.RAM != 0 || memory.Devices != 32768 || memory.Free != 32784 || memory.ROM != 49152 {
		t.Error(memory.RAM, memory.Devices, memory.Free, memory.ROM)
	}
}

// P8.1
func TestNewIsOfNoughts(t *testing.T) {
	m := memory.New()
	holds(t, m, model{})
	n := memory.New()
	n.Load(7, []byte{1, 2})
	n.Label(7, 7, 3)
	holds(t, m, model{})
	holds(t, n, model{7: {V: 1, T: 3}, 8: {V: 2}})
}

// sizes are numbers of bytes around those that there are of a kind.
var sizes = []int{0, 1, 2, 3, 16, 17, 255, 16383, 16384, 16385, 32767, 32768, 32769, 49152, 65535, 65536, 65537, 131072}

// P8.1
func TestLoadOfEdges(t *testing.T) {
	seen := map[api.Errno]int{}
	m, _ := full(t)
	for _, at := range edges {
		for _, n := range sizes {
			e := m.Load(at, row(n))
			if want := (model{}).load(at, row(n)); e != want {
				t.Errorf("Load(%d) of %d bytes: %v, not %v", at, n, e, want)
			}
			seen[e]++
		}
	}
	if seen[api.OK] < 50 || seen[api.ErrRange] < 50 || len(seen) != 2 {
		t.Error(seen)
	}
}

// P8.1
func TestLoadUpToTheLastOfAKind(t *testing.T) {
	for _, c := range []struct {
		at, n int
		want  api.Errno
	}{
		{0, 32768, api.OK}, {0, 32769, api.ErrRange}, {1, 32767, api.OK}, {1, 32768, api.ErrRange},
		{32767, 0, api.OK}, {32767, 1, api.OK}, {32767, 2, api.ErrRange}, {32768, 0, api.ErrRange}, {32768, 1, api.ErrRange},
		{32783, 1, api.ErrRange}, {32784, 0, api.ErrRange}, {32784, 1, api.ErrRange}, {40000, 0, api.ErrRange}, {40000, 10, api.ErrRange},
		{49151, 0, api.ErrRange}, {49151, 1, api.ErrRange}, {49151, 2, api.ErrRange}, {49152, 0, api.OK}, {49152, 16384, api.OK}, {49152, 16385, api.ErrRange},
		{65535, 0, api.OK}, {65535, 1, api.OK}, {65535, 2, api.ErrRange}, {65536, 0, api.ErrRange}, {65536, 1, api.ErrRange},
		{-1, 0, api.ErrRange}, {-1, 1, api.ErrRange}, {-1, 2, api.ErrRange}, {-100, 300, api.ErrRange},
		{0, 65536, api.ErrRange}, {20000, 40000, api.ErrRange}, {math.MaxInt, 2, api.ErrRange}, {math.MinInt, 0, api.ErrRange},
	} {
		m, w := memory.New(), model{}
		if e := m.Load(c.at, row(c.n)); e != c.want || w.load(c.at, row(c.n)) != c.want {
			t.Errorf("Load(%d) of %d bytes: %v, not %v", c.at, c.n, e, c.want)
		}
		holds(t, m, w)
	}
}

// P8.1
func TestLoadTurnsJustItsBytes(t *testing.T) {
	m, w := full(t)
	for _, at := range []int{0, 100, 32760, 49152, 65528} {
		if e := m.Load(at, []byte{9, 0, 255, 8, 7, 6, 5, 4}); e != api.OK {
			t.Error(at, e)
		}
		w.load(at, []byte{9, 0, 255, 8, 7, 6, 5, 4})
	}
	holds(t, m, w) // what was secret there isn't so any more, and else all is as it was
	for _, at := range []int{-1, 32761, 32768, 32784, 49151, 65529, 65536, math.MaxInt} {
		if e := m.Load(at, []byte{1, 2, 3, 4, 5, 6, 7, 8}); e != api.ErrRange {
			t.Error(at, e)
		}
	}
	holds(t, m, w)
	for _, at := range []int{0, 32767, 49152, 65535} {
		if m.Load(at, nil) != api.OK || m.Load(at, []byte{}) != api.OK {
			t.Error(at)
		}
	}
	holds(t, m, w)
}

// R2
func TestLoadKeepsNothingOfWhatIsHandedIn(t *testing.T) {
	m := memory.New()
	b := []byte{1, 2, 3, 4}
	if e := m.Load(10, b[1:3]); e != api.OK {
		t.Fatal(e)
	}
	if !slices.Equal(b, []byte{1, 2, 3, 4}) {
		t.Error(b)
	}
	for i := range b {
		b[i] = 77
	}
	holds(t, m, model{10: {V: 2}, 11: {V: 3}})
	m.Write(10, taint.Of(5))
	if !slices.Equal(b, []byte{77, 77, 77, 77}) {
		t.Error(b)
	}
}

// P8.1
func TestLabelOfEdges(t *testing.T) {
	seen := map[api.Errno]int{}
	m := memory.New()
	for _, from := range edges {
		for _, to := range edges {
			e := m.Label(from, to, 1)
			want := api.ErrRange
			if from <= to && oneKind(from, to) {
				want = api.OK
			}
			if e != want {
				t.Errorf("Label(%d, %d): %v, not %v", from, to, e, want)
			}
			seen[e]++
		}
	}
	if seen[api.OK] < 50 || seen[api.ErrRange] < 50 || len(seen) != 2 {
		t.Error(seen)
	}
}

// P8.1
func TestLabelTurnsJustWhatIsSecret(t *testing.T) {
	m, w := full(t)
	for _, c := range []struct {
		from, to int
		t        byte
	}{{0, 0, 255}, {0, 3, 0x80}, {510, 513, 0xf0}, {600, 600, 1}, {32767, 32767, 0}, {32000, 32767, 0x55}, {49152, 49152, 2}, {65535, 65535, 0}, {65000, 65535, 0xaa}, {3, 3, 0}} {
		if e := m.Label(c.from, c.to, c.t); e != api.OK {
			t.Error(c, e)
		}
		w.label(c.from, c.to, c.t)
	}
	holds(t, m, w)
	for _, c := range [][2]int{{-1, 5}, {5, 4}, {32767, 32768}, {32768, 32768}, {32783, 32784}, {40000, 40000}, {49151, 49152}, {32767, 49152}, {0, 65535}, {65535, 65536}, {65535, 49152}, {math.MinInt, math.MaxInt}} {
		if e := m.Label(c[0], c[1], 0x3c); e != api.ErrRange {
			t.Error(c, e)
		}
	}
	holds(t, m, w)
}

// P8.1
func TestLabelOfAllBits(t *testing.T) {
	m := memory.New()
	for v := range 256 {
		for secret := range 256 {
			m.Load(1000, []byte{byte(v)})
			m.Label(1000, 1000, byte(255-secret)) // what was secret ahead does not tell
			m.Label(1000, 1000, byte(secret))
			if b, e := m.Read(1000); b != (api.Byte{V: byte(v), T: byte(secret)}) || e != api.OK {
				t.Fatal(v, secret, b, e)
			}
		}
	}
}

// P8.2
func TestReadOfEdges(t *testing.T) {
	m, w := full(t)
	holds(t, m, w)
	for _, at := range edges {
		b, e := m.Read(at)
		if v, f := w.read(at); b != v || e != f {
			t.Errorf("Read(%d): %v, %v, not %v, %v", at, b, e, v, f)
		}
	}
	for _, c := range []struct {
		at int
		b  api.Byte
		e  api.Errno
	}{
		{-1, api.Byte{}, api.ErrRange}, {32768, api.Byte{}, api.ErrKind}, {32783, api.Byte{}, api.ErrKind},
		{32784, api.Byte{V: 255}, api.OK}, {40000, api.Byte{V: 255}, api.OK}, {49151, api.Byte{V: 255}, api.OK},
		{65536, api.Byte{}, api.ErrRange}, {0, api.Byte{V: 1, T: 0x0f}, api.OK}, {49152, api.Byte{V: 1, T: 0xf0}, api.OK},
	} {
		if b, e := m.Read(c.at); b != c.b || e != c.e {
			t.Errorf("Read(%d): %v, %v", c.at, b, e)
		}
	}
}

// P8.2
func TestWriteOfEdges(t *testing.T) {
	m, w := full(t)
	for _, at := range edges {
		for _, b := range []api.Byte{{}, {V: 7}, {T: 1}, {V: 255, T: 255}, {V: 0x5a, T: 0x3c}} {
			e := m.Write(at, b)
			if want := w.write(at, b); e != want {
				t.Errorf("Write(%d, %v): %v, not %v", at, b, e, want)
			}
			got, e := m.Read(at)
			if want, f := w.read(at); got != want || e != f {
				t.Errorf("Read(%d) behind Write of %v: %v, %v, not %v, %v", at, b, got, e, want, f)
			}
		}
	}
	holds(t, m, w)
}

// P8.2
func TestWriteOfAllAddresses(t *testing.T) {
	m, w := full(t)
	for at := -20; at < 65556; at++ {
		b := api.Byte{V: byte(at * 7), T: byte(at * 13)}
		if e, want := m.Write(at, b), w.write(at, b); e != want {
			t.Fatalf("Write(%d): %v, not %v", at, e, want)
		}
	}
	holds(t, m, w)
}

// P8.2
func TestCloneIsOfItsOwn(t *testing.T) {
	m, w := full(t)
	n := m.Clone()
	if n == m || !memory.Same(m, n) {
		t.Fatal("not the same")
	}
	holds(t, n, w)
	m.Write(5, taint.Of(200))
	m.Load(50000, []byte{200, 201})
	m.Label(600, 601, 9)
	holds(t, n, w) // what is done to one is not done to the other

	x := model{}
	for at, b := range w {
		x[at] = b
	}
	x.write(5, taint.Of(200))
	x.load(50000, []byte{200, 201})
	x.label(600, 601, 9)
	n.Write(6, taint.Of(201))
	n.Load(50002, []byte{202})
	n.Label(610, 611, 9)
	holds(t, m, x)
	k := memory.New().Clone()
	k.Write(0, taint.Of(1))
	holds(t, k, model{0: {V: 1}})
}

// P8.2
func TestSameOfOneByte(t *testing.T) {
	for _, at := range []int{0, 1, 255, 20000, 32766, 32767, 49152, 49153, 60000, 65534, 65535} {
		m, _ := full(t)
		a, _ := m.Read(at)
		for _, v := range []byte{0, 1, 0x0f, 0x10, 0x80, 0xff} {
			for _, s := range []byte{0, 1, 0x0f, 0xf0, 0xff} {
				n := m.Clone()
				b := api.Byte{V: a.V ^ v, T: s}
				if n.Load(at, []byte{b.V}) != api.OK || n.Label(at, at, b.T) != api.OK {
					t.Fatal(at)
				}
				// The bits that are secret have to be the same ones, the others the same.
				want := a.T == s && v&^s == 0
				if memory.Same(m, n) != want || memory.Same(n, m) != want {
					t.Errorf("of %v and %v at %d Same is not %v", a, b, at, want)
				}
			}
		}
	}
}

// P8.2
func TestSameLooksAtAllBytes(t *testing.T) {
	m, _ := full(t)
	n := m.Clone()
	for at, b := range m.Secret() {
		if isRAM(at) {
			n.Write(at, api.Byte{V: b.V ^ b.T, T: b.T})
		}
	}
	if !memory.Same(m, n) || !memory.Same(n, m) || !memory.Same(n, n) {
		t.Fatal("they differ in secrets alone")
	}
	for _, at := range []int{0, 800, 32767} {
		k := n.Clone()
		b, _ := k.Read(at)
		k.Write(at, api.Byte{V: b.V ^ 0x40, T: b.T})
		if memory.Same(m, k) || memory.Same(k, m) {
			t.Errorf("at %d they differ in what is not secret", at)
		}
		k.Write(at, api.Byte{V: b.V, T: b.T ^ 0x40})
		if memory.Same(m, k) || memory.Same(k, m) {
			t.Errorf("at %d other bits are secret", at)
		}
		k.Write(at, b)
		if !memory.Same(m, k) {
			t.Errorf("at %d they differ in secrets alone again", at)
		}
	}
	if !memory.Same(memory.New(), memory.New()) || memory.Same(memory.New(), m) {
		t.Error("new ones are the same, and no others")
	}
}

// P8.2
func TestSecretIsAsWhenItIsAskedFor(t *testing.T) {
	m := memory.New()
	m.Load(10, []byte{1, 2, 3})
	m.Label(10, 12, 4)
	m.Label(65535, 65535, 1)
	want := []told{{10, api.Byte{V: 1, T: 4}}, {11, api.Byte{V: 2, T: 4}}, {12, api.Byte{V: 3, T: 4}}, {65535, api.Byte{T: 1}}}
	seq := m.Secret()
	m.Write(11, taint.Of(9))
	m.Write(12, api.Byte{V: 8, T: 8})
	m.Label(0, 9, 1)
	m.Load(65535, []byte{1})
	for range 2 { // and again, each time it is gone through
		var l []told
		for at, b := range seq {
			l = append(l, told{at, b})
			m.Label(20000, 20010, 7)
			m.Write(at, taint.Of(0))
		}
		if !slices.Equal(l, want) {
			t.Errorf("%v, not %v", l, want)
		}
	}
	holds(t, m, model{0: {T: 1}, 1: {T: 1}, 2: {T: 1}, 3: {T: 1}, 4: {T: 1}, 5: {T: 1}, 6: {T: 1}, 7: {T: 1}, 8: {T: 1}, 9: {T: 1}, 65535: {V: 1},
		20000: {T: 7}, 20001: {T: 7}, 20002: {T: 7}, 20003: {T: 7}, 20004: {T: 7}, 20005: {T: 7}, 20006: {T: 7}, 20007: {T: 7}, 20008: {T: 7}, 20009: {T: 7}, 20010: {T: 7}})
}

// P8.2
func TestSecretEndsWhereItIsLeft(t *testing.T) {
	m, w := full(t)
	all := w.secret()
	for _, n := range []int{1, 2, 512, 513, len(all) - 1, len(all)} {
		var l []told
		for at, b := range m.Secret() {
			l = append(l, told{at, b})
			if len(l) == n {
				break
			}
		}
		if !slices.Equal(l, all[:n]) {
			t.Errorf("left behind %d: %d are told", n, len(l))
		}
	}
	for at, b := range memory.New().Secret() {
		t.Error(at, b)
	}
}

// P8.2
func TestWhatNeverIsSecret(t *testing.T) {
	m := memory.New()
	secret := api.Byte{V: 3, T: 255}
	for at := 32768; at < 65536; at++ {
		m.Write(at, secret)
	}
	for at, b := range m.Secret() {
		t.Fatal(at, b)
	}
	holds(t, m, model{})
}

// P8.1, P8.2
func TestOfNil(t *testing.T) {
	var m *memory.Memory
	for _, at := range edges {
		if e := m.Load(at, []byte{1}); e != api.ErrNil {
			t.Error("Load", at, e)
		}
		if e := m.Load(at, nil); e != api.ErrNil {
			t.Error("Load of nothing", at, e)
		}
		if e := m.Label(at, at, 1); e != api.ErrNil {
			t.Error("Label", at, e)
		}
		if b, e := m.Read(at); b != (api.Byte{}) || e != api.ErrNil {
			t.Error("Read", at, b, e)
		}
		if e := m.Write(at, taint.Of(1)); e != api.ErrNil {
			t.Error("Write", at, e)
		}
	}
	if m.Clone() != nil {
		t.Error("Clone")
	}
	if n := memory.New(); !memory.Same(m, nil) || !memory.Same(nil, nil) || memory.Same(m, n) || memory.Same(n, m) {
		t.Error("Same")
	}
	seq := m.Secret()
	if seq == nil {
		t.Fatal("Secret is no function")
	}
	for at, b := range seq {
		t.Error("Secret", at, b)
	}
}

// P8.2, P8.3 (the chapter's examples)
func TestExamples(t *testing.T) {
	m := memory.New()
	if m.Write(32767, taint.Of(7)) != api.OK || m.Write(49152, taint.Of(7)) != api.OK {
		t.Error("Write")
	}
	if b, e := m.Read(32767); b != taint.Of(7) || e != api.OK {
		t.Error(b, e)
	}
	if b, e := m.Read(49152); b != taint.Of(0) || e != api.OK {
		t.Error(b, e)
	}
	if b, e := m.Read(40000); b != taint.Of(255) || e != api.OK {
		t.Error(b, e)
	}
}

// numbers is a row of numbers that looks without order, the same one each time.
type numbers uint64

func (n *numbers) next(below int) int {
	*n = *n*6364136223846793005 + 1442695040888963407
	return int(uint64(*n) >> 33 % uint64(below))
}

// P8.3
func TestWhatWasWrittenIsReadAgain(t *testing.T) {
	m, w := memory.New(), model{}
	n := numbers(8)
	places := append(slices.Clone(edges), 3, 4, 5, 30000, 50000, 50001, 65533)
	for i := range 60000 {
		at := places[n.next(len(places))]
		if n.next(2) == 0 {
			at = n.next(65536)
		}
		b := api.Byte{V: byte(n.next(256)), T: byte(n.next(256))}
		var e, want api.Errno
		switch n.next(8) {
		case 0:
			l := row(n.next(40))
			e, want = m.Load(at, l), w.load(at, l)
		case 1:
			to := places[n.next(len(places))]
			if at >= 0 && at < 65536 && n.next(4) > 0 {
				to = at + n.next(40)
			}
			if to > at && to-at > 100 && n.next(50) > 0 {
				to = at // a long row of labels seldom
			}
			e, want = m.Label(at, to, b.T), w.label(at, to, b.T)
		case 2:
			m = m.Clone()
		default:
			e, want = m.Write(at, b), w.write(at, b)
		}
		if e != want {
			t.Fatalf("step %d at %d: %v, not %v", i, at, e, want)
		}
		look := places[n.next(len(places))]
		got, e := m.Read(look)
		if b, f := w.read(look); got != b || e != f {
			t.Fatalf("step %d: Read(%d): %v, %v, not %v, %v", i, look, got, e, b, f)
		}
		if i%5000 == 0 {
			holds(t, m, w)
		}
	}
	holds(t, m, w)
}

// P8.3
func TestErasedOfSecretsItIsAsOneWithout(t *testing.T) {
	m, n := memory.New(), memory.New()
	for _, x := range []*memory.Memory{m, n} {
		x.Load(0, row(32768))
		x.Load(49152, row(16384))
		x.Write(9, taint.Of(99))
	}
	m.Label(0, 20000, 0xc3)
	m.Label(32767, 32767, 255)
	m.Label(49152, 49152, 8)
	m.Label(65000, 65535, 1)
	m.Write(10, api.Byte{V: 98, T: 255})
	n.Write(10, taint.Of(98))
	if memory.Same(m, n) {
		t.Error("secrets do not tell")
	}
	m.Label(0, 32767, 0)
	m.Label(49152, 65535, 0)
	if !memory.Same(m, n) {
		t.Error("erased it is another one")
	}
	for at := range 65536 {
		a, e := m.Read(at)
		if b, f := n.Read(at); a != b || e != f {
			t.Fatal(at, a, e, b, f)
		}
	}
	for at, b := range m.Secret() {
		t.Fatal(at, b)
	}
}
