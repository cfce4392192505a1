package watch_test

import (
	"slices"
	"testing"

	"cochineal/api"
	"cochineal/labels"
	"cochineal/policy"
	"cochineal/watch"
)

// Kinds of calls that a watch is told something by.
const (
	broken = iota
	see
	told
	kinds
)

// call is one of them: of the numbers only its kind's count.
type call struct {
	kind   int
	alarm  watch.Alarm
	cycle  int
	record api.Record
	n      int
}

// answered is a call, and what it came to.
type answered struct {
	call
	e api.Errno
}

// model is a watch by the chapter's words, written otherwise: it keeps all calls, and goes through them each time.
type model struct {
	policy policy.Policy
	past   []answered
}

func (m *model) state() api.Errno {
	for _, x := range m.past {
		if x.e == api.ErrAlarm || x.e == api.ErrFull {
			return x.e
		}
	}
	return api.OK
}

func (m *model) seen() int {
	n := 0
	for _, x := range m.past {
		if x.kind == see && x.e == api.OK {
			n++
		}
	}
	return n
}

func (m *model) alarms() []watch.Alarm {
	for _, x := range m.past {
		switch {
		case x.e == api.ErrAlarm && x.kind == broken:
			return []watch.Alarm{x.alarm}
		case x.e == api.ErrAlarm:
			return []watch.Alarm{{Rule: 4, Cycle: x.cycle, At: x.record.Addr, Bits: m.leaks(x.record)}}
		}
	}
	return nil
}

// leaks is what of a record is secret, and may not go where it goes.
func (m *model) leaks(x api.Record) byte {
	for _, s := range m.policy.Sinks {
		if x.Write && s.From <= x.Addr && x.Addr <= s.To {
			return x.Data.T & s.Bits
		}
	}
	return 0
}

// late tells whether something was seen in a later cycle.
func (m *model) late(cycle int) bool {
	for _, x := range slices.Backward(m.past) {
		if x.kind == see && x.e == api.OK {
			return cycle < x.cycle
		}
	}
	return false
}

func isAddress(at int) bool { return at >= 0 && at <= 65535 }

func isAlarm(a watch.Alarm) bool {
	return slices.Contains([]int{1, 2, 3, 4}, a.Rule) && a.Cycle >= 0 && isAddress(a.At)
}

// would is what a call comes to.
func (m *model) would(c call) api.Errno {
	if m.state() != api.OK {
		return api.ErrHalt
	}
	switch c.kind {
	case broken:
		return m.wouldBreak(c.alarm)
	case see:
		return m.wouldSee(c.cycle, c.record)
	}
	if c.n < 0 {
		return api.ErrRange
	}
	if c.n > m.policy.Declassify {
		return api.ErrFull
	}
	return api.OK
}

func (m *model) wouldBreak(a watch.Alarm) api.Errno {
	if !isAlarm(a) {
		return api.ErrRange
	}
	if m.late(a.Cycle) {
		return api.ErrOrder
	}
	return api.ErrAlarm
}

func (m *model) wouldSee(cycle int, x api.Record) api.Errno {
	if cycle < 0 || !isAddress(x.Addr) {
		return api.ErrRange
	}
	if m.late(cycle) {
		return api.ErrOrder
	}
	if m.leaks(x) != 0 {
		return api.ErrAlarm
	}
	return api.OK
}

func (m *model) do(c call) api.Errno {
	e := m.would(c)
	m.past = append(m.past, answered{c, e})
	return e
}

func (m *model) clone() *model { return &model{m.policy, slices.Clone(m.past)} }

// do lets a watch be told what a call tells.
func do(w *watch.Watch, c call) api.Errno {
	switch c.kind {
	case broken:
		return w.Broken(c.alarm)
	case see:
		return w.See(c.cycle, c.record)
	}
	return w.Told(c.n)
}

// same holds a watch against its model.
func same(t *testing.T, w *watch.Watch, m *model) {
	t.Helper()
	if w.State() != m.state() || w.Seen() != m.seen() || !slices.Equal(w.Alarms(), m.alarms()) {
		t.Fatalf("%+v: %v %v %v, want %v %v %v", m.past, w.State(), w.Seen(), w.Alarms(), m.state(), m.seen(), m.alarms())
	}
}

// both lets a watch and its model be told the same, and holds them against each other.
func both(t *testing.T, w *watch.Watch, m *model, c call) api.Errno {
	t.Helper()
	e, want := do(w, c), m.do(c)
	if e != want {
		t.Fatalf("%+v: %+v: %v, want %v", m.past, c, e, want)
	}
	same(t, w, m)
	return e
}

// of is a watch by a policy that may be, and its model.
func of(t *testing.T, p policy.Policy) (*watch.Watch, *model) {
	t.Helper()
	table, e := labels.New(p)
	if e != api.OK {
		t.Fatal(e)
	}
	w, e := watch.New(table)
	if e != api.OK || w == nil {
		t.Fatal(e)
	}
	return w, &model{policy: p}
}

func span(from, to int, bits byte) policy.Span { return policy.Span{From: from, To: to, Bits: bits} }

func put(at int, b api.Byte) api.Record { return api.Record{Addr: at, Write: true, Data: b} }

func get(at int, b api.Byte) api.Record { return api.Record{Addr: at, Data: b} }

func breaks(rule, cycle, at int, bits byte) call {
	return call{kind: broken, alarm: watch.Alarm{Rule: rule, Cycle: cycle, At: at, Bits: bits}}
}

func sees(cycle int, x api.Record) call { return call{kind: see, cycle: cycle, record: x} }

func tells(n int) call { return call{kind: told, n: n} }

// policies are all kinds of them.
var policies = map[string]policy.Policy{
	"none":    {Trace: 1},
	"most":    {Declassify: 1000, Trace: 4096},
	"secrets": {Secrets: []policy.Span{span(0, 32767, 255), span(49152, 65535, 255)}, Declassify: 1, Trace: 1024},
	"one":     {Sinks: []policy.Span{span(768, 768, 255)}, Declassify: 2, Trace: 1},
	"some":    {Secrets: []policy.Span{span(21, 40, 255)}, Sinks: []policy.Span{span(300, 310, 129), span(10, 20, 15), span(0, 0, 64), span(32767, 32767, 1)}, Declassify: 3, Trace: 9},
	"all":     {Sinks: []policy.Span{span(0, 32767, 255)}, Declassify: 999, Trace: 1},
}
