package watch_test

import (
	"math"
	"slices"
	"testing"

	"cochineal/api"
	"cochineal/labels"
	"cochineal/policy"
	"cochineal/watch"
)

// numbers are some at the ends of what may be, and beyond.
var numbers = []int{math.MinInt, -65536, -2, -1, 0, 1, 2, 3, 4, 5, 6, 255, 256, 260, 768, 32767, 32768, 65535, 65536, 65537, 1 << 20, 1<<32 + 1, math.MaxInt}

// P16.1
func TestNew(t *testing.T) {
	if w, e := watch.New(nil); w != nil || e != api.ErrNil {
		t.Error(w, e)
	}
	for name, p := range policies {
		w, _ := of(t, p)
		if w.State() != api.OK || w.Seen() != 0 || len(w.Alarms()) != 0 {
			t.Error(name, w.State(), w.Seen(), w.Alarms())
		}
	}
}

// P16.1
func TestBroken(t *testing.T) {
	w, m := of(t, policies["some"])
	for _, rule := range numbers {
		for _, cycle := range numbers {
			for _, at := range numbers {
				for _, bits := range []byte{0, 1, 255} {
					both(t, w.Clone(), m.clone(), breaks(rule, cycle, at, bits))
				}
			}
		}
	}
	for name, p := range policies {
		w, m := of(t, p)
		if e := both(t, w, m, breaks(2, 7, 65535, 3)); e != api.ErrAlarm {
			t.Error(name, e)
		}
	}
}

// P16.1
func TestBrokenWords(t *testing.T) {
	w, _ := of(t, policies["one"])
	a := watch.Alarm{Rule: api.RuleIRQ, Cycle: 12, At: 9, Bits: 5}
	for _, x := range []watch.Alarm{{}, {Rule: 5}, {Rule: -1}, {Rule: 1, Cycle: -1}, {Rule: 1, At: -1}, {Rule: 4, At: 65536}} {
		if e := w.Broken(x); e != api.ErrRange || w.State() != api.OK || len(w.Alarms()) != 0 {
			t.Error(x, e)
		}
	}
	if e := w.Broken(a); e != api.ErrAlarm || w.State() != api.ErrAlarm || !slices.Equal(w.Alarms(), []watch.Alarm{a}) || w.Seen() != 0 {
		t.Error(e, w.Alarms())
	}
}

// P16.1
func TestSeeEverywhere(t *testing.T) {
	for name, p := range policies {
		w, m := of(t, p)
		for at := -2; at < 65540; at++ {
			for _, b := range []api.Byte{{V: 255}, {T: 1}, {T: 240}, {V: 9, T: 255}} {
				c, want := w.Clone(), api.OK
				if leaks := m.leaks(put(at, b)); !isAddress(at) {
					want = api.ErrRange
				} else if leaks != 0 {
					want = api.ErrAlarm
				}
				if e := c.See(3, put(at, b)); e != want {
					t.Fatal(name, at, b, e)
				}
				if want == api.ErrAlarm && !slices.Equal(c.Alarms(), []watch.Alarm{{Rule: 4, Cycle: 3, At: at, Bits: m.leaks(put(at, b))}}) {
					t.Fatal(name, at, b, c.Alarms())
				}
			}
		}
		same(t, w, m)
	}
}

// P16.1
func TestSeeBits(t *testing.T) {
	for bits := 1; bits < 256; bits++ {
		p := policy.Policy{Sinks: []policy.Span{span(5, 6, byte(bits))}, Trace: 1}
		w, m := of(t, p)
		for secret := range 256 {
			for _, v := range []byte{0, 170, 255} {
				b := api.Byte{V: v, T: byte(secret)}
				c, n := w.Clone(), m.clone()
				both(t, c, n, sees(0, get(5, b)))
				both(t, c, n, sees(0, put(7, b)))
				both(t, c, n, sees(1, put(6, b)))
			}
		}
	}
}

// P16.1
func TestSeeNumbers(t *testing.T) {
	for name, p := range policies {
		w, m := of(t, p)
		for _, cycle := range numbers {
			for _, at := range numbers {
				for _, x := range []api.Record{put(at, api.Byte{T: 255}), put(at, api.Byte{V: 255}), get(at, api.Byte{V: 1, T: 255})} {
					if e := both(t, w.Clone(), m.clone(), sees(cycle, x)); (e == api.ErrRange) != (cycle < 0 || !isAddress(at)) {
						t.Error(name, cycle, x, e)
					}
				}
			}
		}
	}
}

// P16.1
func TestOrder(t *testing.T) {
	x := get(768, api.Byte{})
	for _, last := range []int{0, 1, 2, 12, 1 << 40, math.MaxInt} {
		w, m := of(t, policies["one"])
		both(t, w, m, sees(last, x))
		for _, cycle := range []int{-1, 0, last - 1, last, last/2 + 1} {
			both(t, w.Clone(), m.clone(), sees(cycle, x))
			both(t, w.Clone(), m.clone(), sees(cycle, put(65536, api.Byte{})))
			both(t, w.Clone(), m.clone(), sees(cycle, put(768, api.Byte{T: 1})))
			both(t, w.Clone(), m.clone(), breaks(1, cycle, 0, 0))
			both(t, w.Clone(), m.clone(), breaks(0, cycle, 0, 0))
		}
		if last < math.MaxInt {
			both(t, w.Clone(), m.clone(), sees(last+1, x))
			both(t, w.Clone(), m.clone(), breaks(3, last+1, 0, 0))
		}
	}
}

// P16.1: only what was seen without an error counts as seen last.
func TestOrderBehindErrors(t *testing.T) {
	w, m := of(t, policies["one"])
	for _, c := range []call{
		sees(5, get(1, api.Byte{})), sees(90, get(65536, api.Byte{})), sees(5, get(2, api.Byte{})), sees(4, get(2, api.Byte{})), breaks(9, 99, 0, 0), breaks(1, 4, 0, 0),
		tells(2), tells(-8), sees(5, put(767, api.Byte{T: 255})), sees(6, put(769, api.Byte{T: 255})), sees(5, get(1, api.Byte{})), breaks(1, 5, 0, 0), breaks(2, 6, 65535, 0),
	} {
		both(t, w, m, c)
	}
	if w.Seen() != 4 || !slices.Equal(w.Alarms(), []watch.Alarm{{Rule: 2, Cycle: 6, At: 65535}}) {
		t.Error(w.Seen(), w.Alarms())
	}
}

// P16.1
func TestTold(t *testing.T) {
	for name, p := range policies {
		w, m := of(t, p)
		for n := -2; n <= p.Declassify; n++ {
			want := api.OK
			if n < 0 {
				want = api.ErrRange
			}
			if e := w.Told(n); e != want {
				t.Fatal(name, n, e)
			}
		}
		for range 3 { // how many there are in all is told, not how many more
			both(t, w, m, tells(p.Declassify))
			both(t, w, m, tells(0))
		}
		both(t, w, m, sees(0, get(0, api.Byte{}))) // what is told has no cycle
		for _, n := range append(numbers, p.Declassify+1, p.Declassify+2, 1001) {
			if e := both(t, w.Clone(), m.clone(), tells(n)); (e == api.ErrFull) != (n > p.Declassify) {
				t.Error(name, n, e)
			}
		}
	}
}

// every are calls of all kinds, those that may be and those that may not.
var every = []call{
	breaks(1, 0, 0, 0), breaks(4, math.MaxInt, 65535, 255), breaks(0, 0, 0, 0), breaks(1, -1, 0, 0), breaks(1, 0, 65536, 0), breaks(3, 4, 0, 9),
	sees(0, get(0, api.Byte{})), sees(9, put(768, api.Byte{T: 255})), sees(9, put(1, api.Byte{T: 255})), sees(-1, put(1, api.Byte{})), sees(9, put(-1, api.Byte{})), sees(4, get(5, api.Byte{})),
	tells(0), tells(2), tells(3), tells(-1), tells(math.MaxInt),
}

// P16.1, P16.2: whatever it stopped at, it stays so.
func TestHalt(t *testing.T) {
	for _, stop := range []call{breaks(2, 6, 9, 0), sees(5, put(768, api.Byte{V: 3, T: 129})), tells(3)} {
		w, m := of(t, policies["one"])
		both(t, w, m, sees(5, put(2, api.Byte{T: 1})))
		both(t, w, m, stop)
		state, alarms := w.State(), w.Alarms()
		for range 2 {
			for _, c := range every {
				if e := both(t, w, m, c); e != api.ErrHalt {
					t.Error(stop, c, e)
				}
				if c := w.Clone(); c.State() != state || c.Seen() != 1 || !slices.Equal(c.Alarms(), alarms) {
					t.Error(stop, c.State(), c.Seen(), c.Alarms())
				}
			}
		}
	}
}

// P16.2
func TestStates(t *testing.T) {
	w, _ := of(t, policies["one"])
	full, alarm := w.Clone(), w.Clone()
	if full.Told(3) != api.ErrFull || full.State() != api.ErrFull || len(full.Alarms()) != 0 || full.Seen() != 0 {
		t.Error(full.State(), full.Alarms())
	}
	if alarm.See(8, put(768, api.Byte{T: 6})) != api.ErrAlarm || alarm.State() != api.ErrAlarm || alarm.Seen() != 0 {
		t.Error(alarm.State(), alarm.Seen())
	}
	if l := alarm.Alarms(); !slices.Equal(l, []watch.Alarm{{Rule: api.RuleSink, Cycle: 8, At: 768, Bits: 6}}) {
		t.Error(l)
	}
	if w.State() != api.OK || len(w.Alarms()) != 0 {
		t.Error(w.State(), w.Alarms())
	}
}

// P16.2: what is answered is the caller's.
func TestAlarmsAreTheCallers(t *testing.T) {
	w, m := of(t, policies["one"])
	both(t, w, m, breaks(1, 2, 3, 4))
	c := w.Clone()
	l, k := w.Alarms(), w.Alarms()
	l[0] = watch.Alarm{Rule: 3}
	l = append(l[:0], watch.Alarm{Rule: 2}, watch.Alarm{})
	if len(k) != 1 || k[0] != (watch.Alarm{Rule: 1, Cycle: 2, At: 3, Bits: 4}) {
		t.Error(k, l)
	}
	same(t, w, m)
	same(t, c, m)
}

// P16.2: each of both goes on alone.
func TestClone(t *testing.T) {
	for _, first := range every {
		for _, second := range every {
			w, m := of(t, policies["one"])
			both(t, w, m, sees(4, get(1, api.Byte{})))
			c, n := w.Clone(), m.clone()
			both(t, w, m, first)
			same(t, c, n)
			both(t, c, n, second)
			same(t, w, m)
			d, o := c.Clone(), n.clone()
			both(t, c, n, first)
			both(t, d, o, second)
			same(t, c, n)
		}
	}
}

// P16.1, P16.2
func TestNil(t *testing.T) {
	var w *watch.Watch
	for _, c := range every {
		if e := do(w, c); e != api.ErrNil {
			t.Error(c, e)
		}
	}
	if w.State() != api.ErrNil || len(w.Alarms()) != 0 || w.Seen() != 0 || w.Clone() != nil {
		t.Error(w.State(), w.Alarms(), w.Seen())
	}
}

// P16.1: a watch goes by its table, whatever becomes of the policy that its table was made of.
func TestPolicyThatIsWrittenOver(t *testing.T) {
	p := policy.Policy{Sinks: []policy.Span{span(10, 20, 15)}, Declassify: 2, Trace: 1}
	m := &model{policy: policy.Policy{Sinks: slices.Clone(p.Sinks), Declassify: 2, Trace: 1}}
	table, _ := labels.New(p)
	w, e := watch.New(table)
	p.Sinks[0] = span(768, 768, 255)
	told := table.Policy()
	told.Sinks[0] = span(0, 0, 255)
	if e != api.OK {
		t.Fatal(e)
	}
	for _, c := range []call{sees(1, put(768, api.Byte{T: 255})), sees(1, put(0, api.Byte{T: 255})), tells(2), sees(1, put(10, api.Byte{T: 255}))} {
		both(t, w, m, c)
	}
	if q := table.Policy(); !policy.Same(q, m.policy) {
		t.Error(q)
	}
}

// rows are so many numbers that are hard to foretell, the same each time.
func rows(seed uint32) func(n int) int {
	return func(n int) int {
		seed = seed*1664525 + 1013904223
		return int(seed>>8) % n
	}
}

// some is one of the calls that often, but not always, may be.
func some(next func(int) int, m *model, cycle int) call {
	at := next(330)
	if next(9) == 0 {
		at = numbers[next(len(numbers))]
	}
	cycle += next(4) - 1
	if next(30) == 0 {
		cycle = numbers[next(len(numbers))]
	}
	switch next(12) {
	case 0:
		return breaks(next(7)-1, cycle-next(3), at, byte(next(256)))
	case 1:
		return tells(next(m.policy.Declassify+2) - next(2))
	}
	return sees(cycle, api.Record{Addr: at, Write: next(3) > 0, Data: api.Byte{V: byte(next(256)), T: byte(next(256) & next(256) & next(256))}})
}

// P16.1, P16.2, P16.3: long rows of calls, with clones that go on.
func TestRows(t *testing.T) {
	stopped := map[api.Errno]int{}
	for seed := range 400 {
		for _, name := range []string{"none", "secrets", "one", "some"} {
			next := rows(uint32(seed))
			w, m := of(t, policies[name])
			twin, _ := of(t, policies[name])
			cycle := 0
			for range 60 {
				c := some(next, m, cycle)
				was, before := w.Clone(), m.clone()
				e := both(t, w, m, c)
				if f := do(twin, c); f != e || twin.State() != w.State() || twin.Seen() != w.Seen() || !slices.Equal(twin.Alarms(), w.Alarms()) {
					t.Fatal(name, seed, c, e, f)
				}
				same(t, was, before)
				if c.kind == see && e == api.OK {
					cycle = min(c.cycle, math.MaxInt-9)
				}
			}
			stopped[w.State()]++
		}
	}
	if stopped[api.OK] == 0 || stopped[api.ErrAlarm] == 0 || stopped[api.ErrFull] == 0 {
		t.Error("too few kinds of rows", stopped)
	}
}

// P16.3
func TestWithoutSinks(t *testing.T) {
	for _, name := range []string{"none", "most", "secrets"} {
		w, _ := of(t, policies[name])
		for at := range 65536 {
			if e := w.See(at, put(at, api.Byte{V: byte(at), T: 255})); e != api.OK {
				t.Fatal(name, at, e)
			}
		}
		if w.State() != api.OK || w.Seen() != 65536 || len(w.Alarms()) != 0 {
			t.Error(name, w.State(), w.Seen(), w.Alarms())
		}
	}
}

// P16.3
func TestWithoutSecrets(t *testing.T) {
	for name, p := range policies {
		w, _ := of(t, p)
		for at := range 65536 {
			for _, write := range []bool{false, true} {
				if e := w.See(7, api.Record{Addr: at, Write: write, Data: api.Byte{V: byte(at)}}); e != api.OK {
					t.Fatal(name, at, e)
				}
			}
		}
		if w.State() != api.OK || w.Seen() != 2*65536 || len(w.Alarms()) != 0 {
			t.Error(name, w.State(), w.Seen(), w.Alarms())
		}
	}
}

// P16.3: two by one table do not know of each other.
func TestTwoByOneTable(t *testing.T) {
	table, _ := labels.New(policies["some"])
	for _, first := range every {
		w, _ := watch.New(table)
		for _, c := range every {
			do(w, first)
			do(w, c)
			one, _ := watch.New(table)
			m := &model{policy: policies["some"]}
			same(t, one, m)
			both(t, one, m, c)
		}
	}
}
