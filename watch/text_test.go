package watch_test

import (
	"fmt"
	"math"
	"testing"

	"cochineal/api"
	"cochineal/watch"
)

// text is an alarm's text by the chapter's words.
func text(a watch.Alarm) (string, api.Errno) {
	if !isAlarm(a) {
		return "", api.ErrRange
	}
	word := map[int]string{1: "addr", 2: "branch", 3: "irq", 4: "sink"}[a.Rule]
	return fmt.Sprintf("%s %d $%04x $%02x", word, a.Cycle, a.At, a.Bits), api.OK
}

func holdText(t *testing.T, a watch.Alarm) {
	t.Helper()
	s, e := watch.Text(a)
	want, f := text(a)
	if s != want || e != f {
		t.Fatalf("%+v: %q %v, want %q %v", a, s, e, want, f)
	}
}

// P16.2
func TestTextOfAll(t *testing.T) {
	for at := range api.Size {
		holdText(t, watch.Alarm{Rule: at%4 + 1, Cycle: at * 7, At: at, Bits: byte(at >> 3)})
	}
	for rule := 1; rule <= 4; rule++ {
		for bits := range 256 {
			holdText(t, watch.Alarm{Rule: rule, Cycle: bits, At: bits * 257, Bits: byte(bits)})
		}
	}
	for cycle := 1; cycle > 0; cycle *= 2 {
		holdText(t, watch.Alarm{Rule: 1, Cycle: cycle - 1, At: 1, Bits: 1})
		holdText(t, watch.Alarm{Rule: 2, Cycle: cycle, At: 1, Bits: 1})
	}
	for cycle := range 2000 {
		holdText(t, watch.Alarm{Rule: 3, Cycle: cycle})
	}
}

// P16.2
func TestTextOfNumbers(t *testing.T) {
	for _, rule := range numbers {
		for _, cycle := range numbers {
			for _, at := range numbers {
				holdText(t, watch.Alarm{Rule: rule, Cycle: cycle, At: at, Bits: 129})
			}
		}
	}
}

// P16.2
func TestTextWords(t *testing.T) {
	for _, x := range []struct {
		a watch.Alarm
		s string
		e api.Errno
	}{
		{watch.Alarm{Rule: 4, Cycle: 12, At: 768, Bits: 255}, "sink 12 $0300 $ff", api.OK},
		{watch.Alarm{Rule: api.RuleAddr}, "addr 0 $0000 $00", api.OK},
		{watch.Alarm{Rule: api.RuleBranch, Cycle: 10, At: 0xabcd, Bits: 0xef}, "branch 10 $abcd $ef", api.OK},
		{watch.Alarm{Rule: api.RuleIRQ, Cycle: math.MaxInt, At: 65535, Bits: 9}, "irq 9223372036854775807 $ffff $09", api.OK},
		{watch.Alarm{Rule: api.RuleSink, At: 65536}, "", api.ErrRange},
		{watch.Alarm{Rule: api.RuleSink, At: -1}, "", api.ErrRange},
		{watch.Alarm{Rule: api.RuleSink, Cycle: -1}, "", api.ErrRange},
		{watch.Alarm{Rule: 0, Cycle: 12, At: 768, Bits: 255}, "", api.ErrRange},
		{watch.Alarm{Rule: 5, Cycle: 12, At: 768, Bits: 255}, "", api.ErrRange},
		{watch.Alarm{Rule: -1}, "", api.ErrRange},
	} {
		if s, e := watch.Text(x.a); s != x.s || e != x.e {
			t.Error(x.a, s, e)
		}
	}
}
