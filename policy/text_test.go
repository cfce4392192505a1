package policy_test

import (
	"fmt"
	"slices"
	"strings"
	"testing"

	"cochineal/api"
	"cochineal/lexer"
	"cochineal/policy"
)

// nothing tells whether a policy is the zero value.
func nothing(p policy.Policy) bool {
	return len(p.Secrets) == 0 && len(p.Sinks) == 0 && p.Declassify == 0 && p.Trace == 0
}

// equal tells whether two policies are the same, in order too.
func equal(p, q policy.Policy) bool {
	return slices.Equal(p.Secrets, q.Secrets) && slices.Equal(p.Sinks, q.Sinks) && p.Declassify == q.Declassify && p.Trace == q.Trace
}

// parses holds what Parse tells of a text that is not wrong.
func parses(t *testing.T, s string, want policy.Policy) {
	t.Helper()
	p, at, e := policy.Parse(s)
	if !equal(p, want) || at != (lexer.Place{}) || e != api.OK || !policy.Fine(s) {
		t.Errorf("Parse(%.80q): %v, %v, %v, not %v", s, p, at, e, want)
	}
}

// wrong holds what Parse tells of a text that is wrong.
func wrong(t *testing.T, s string, line, col int, want api.Errno) {
	t.Helper()
	p, at, e := policy.Parse(s)
	if !nothing(p) || at != (lexer.Place{Line: line, Col: col}) || e != want || policy.Fine(s) {
		t.Errorf("Parse(%.80q): %v, %v, %v, not %d, %d, %v", s, p, at, e, line, col, want)
	}
}

// forms are, by a line's word, the kinds of tokens that may stand behind it: N a number, D dots, B bits, E the end.
var forms = map[string][]string{
	"secret":     {"NE", "NDNE", "NBNE", "NDNBNE"},
	"sink":       {"NE", "NDNE", "NBNE", "NDNBNE"},
	"declassify": {"NE"},
	"trace":      {"NE"},
}

// letter is a token's kind as of forms.
func letter(x lexer.Token) string {
	switch {
	case x.Kind == lexer.Number:
		return "N"
	case x.Kind == lexer.Dots:
		return "D"
	case x.Kind == lexer.End:
		return "E"
	case x.Text == "bits":
		return "B"
	}
	return "?"
}

// parseOracle is Parse by the chapter's words, written otherwise.
func parseOracle(s string) (policy.Policy, lexer.Place, api.Errno) {
	all, at, e := lexer.Scan(s)
	if e != api.OK {
		return policy.Policy{}, at, e
	}
	p := policy.Policy{Trace: 1024}
	told, o, spans := map[string]bool{}, owners{}, 0
	for len(all) > 0 {
		end := slices.IndexFunc(all, func(x lexer.Token) bool { return x.Kind == lexer.End })
		l := all[:end+1]
		all = all[end+1:]
		word := l[0].Text
		may, ok := forms[word]
		if !ok {
			return policy.Policy{}, l[0].At, api.ErrName
		}
		is := ""
		for _, x := range l[1:] {
			is += letter(x)
			if !slices.ContainsFunc(may, func(f string) bool { return strings.HasPrefix(f, is) }) {
				return policy.Policy{}, x.At, api.ErrForm
			}
		}
		if word == "declassify" || word == "trace" {
			low, high, into := 0, 1000, &p.Declassify
			if word == "trace" {
				low, high, into = 1, 4096, &p.Trace
			}
			if told[word] {
				return policy.Policy{}, l[0].At, api.ErrThere
			}
			if l[1].N < low || l[1].N > high {
				return policy.Policy{}, l[1].At, api.ErrRange
			}
			told[word] = true
			*into = l[1].N
			continue
		}
		x := policy.Span{From: l[1].N, To: l[1].N, Bits: 255}
		if i := strings.Index(is, "DN"); i >= 0 {
			x.To = l[i+2].N
		}
		if i := strings.Index(is, "BN"); i >= 0 {
			if l[i+2].N < 1 || l[i+2].N > 255 {
				return policy.Policy{}, l[i+2].At, api.ErrRange
			}
			x.Bits = byte(l[i+2].N)
		}
		spans++
		switch e := o.add(x, word == "sink", spans); {
		case e == api.ErrRange:
			return policy.Policy{}, l[1].At, e
		case e != api.OK:
			return policy.Policy{}, l[0].At, e
		case word == "sink":
			p.Sinks = append(p.Sinks, x)
		default:
			p.Secrets = append(p.Secrets, x)
		}
	}
	byFrom := func(a, b policy.Span) int { return a.From - b.From } // no two that may be have the same
	slices.SortFunc(p.Secrets, byFrom)
	slices.SortFunc(p.Sinks, byFrom)
	return p, lexer.Place{}, api.OK
}

// sameAsOracle holds Parse against the chapter's words, and is its error.
func sameAsOracle(t *testing.T, s string) api.Errno {
	t.Helper()
	p, at, e := policy.Parse(s)
	op, oat, oe := parseOracle(s)
	if !equal(p, op) || at != oat || e != oe {
		t.Errorf("Parse(%.80q): %v, %v, %v, not %v, %v, %v", s, p, at, e, op, oat, oe)
	}
	if policy.Fine(s) != (oe == api.OK) {
		t.Errorf("Fine(%.80q)", s)
	}
	return e
}

// P7.2
func TestParse(t *testing.T) {
	for _, s := range []string{"", "\n", " \t\n\n", "# secret", "#\n # trace 0\n"} {
		parses(t, s, policy.Policy{Trace: 1024})
	}
	one := func(from, to int, bits byte) policy.Policy { return of([]policy.Span{span(from, to, bits)}, nil) }
	parses(t, "secret 5", one(5, 5, 255))
	parses(t, "secret $0200..$02ff bits $0f", one(512, 767, 15))
	parses(t, "secret 0", one(0, 0, 255))
	parses(t, "secret 0 .. 32767", one(0, 32767, 255))
	parses(t, "secret 49152 .. 65535 bits 1", one(49152, 65535, 1))
	parses(t, "secret 7..7 bits 255", one(7, 7, 255))
	parses(t, "secret 7 bits 128", one(7, 7, 128))
	parses(t, "\n\tsecret\t7..8\tbits\t$80 # bits\n\n", one(7, 8, 128))
	parses(t, "sink 0..32767 bits 16", of(nil, []policy.Span{span(0, 32767, 16)}))
	parses(t, "declassify 0", policy.Policy{Trace: 1024})
	parses(t, "declassify 1000", policy.Policy{Declassify: 1000, Trace: 1024})
	parses(t, "trace 1", policy.Policy{Trace: 1})
	parses(t, "trace $1000", policy.Policy{Trace: 4096})
	parses(t, "trace 1024\ndeclassify 0", policy.Policy{Trace: 1024})
	parses(t, "trace 2\nsink 40\nsecret 30\nsecret 10..20 bits 2\ndeclassify 7\nsink 9\nsecret 50000\nsink 35..36", policy.Policy{
		Secrets:    []policy.Span{span(10, 20, 2), span(30, 30, 255), span(50000, 50000, 255)},
		Sinks:      []policy.Span{span(9, 9, 255), span(35, 36, 255), span(40, 40, 255)},
		Declassify: 7,
		Trace:      2,
	})
}

// P7.2
func TestParseTellsScansErrorFirst(t *testing.T) {
	wrong(t, "x 1\nsecret $", 2, 8, api.ErrForm)
	wrong(t, "secret\n-", 2, 1, api.ErrMark)
	wrong(t, "trace 0\ntrace 65536", 2, 7, api.ErrRange)
	wrong(t, "trace 0\n"+strings.Repeat(" ", 1001), 2, 1001, api.ErrLong)
	wrong(t, "x\n"+strings.Repeat("\n", 65535), 0, 0, api.ErrLong)
	wrong(t, strings.Repeat("\n", 65535)+"x", 65536, 1, api.ErrName)
	wrong(t, "Secret 1", 1, 1, api.ErrMark)
}

// P7.2
func TestParseOfNames(t *testing.T) {
	for _, s := range []string{"x", "bits", "secrets", "secre", "sinks", "declassified", "traces", "n", "5", "$05", "..", "bits 5", "secretsink"} {
		wrong(t, s, 1, 1, api.ErrName)
		wrong(t, "sink 1\n\n  "+s+" ..", 3, 3, api.ErrName)
		wrong(t, s+"\ntrace 0", 1, 1, api.ErrName)
	}
}

// P7.2
func TestParseOfForms(t *testing.T) {
	for _, word := range []string{"secret", "sink"} {
		for _, c := range []struct {
			s   string
			col int
		}{
			{"", 0}, {" x", 1}, {" ..", 1}, {" bits", 1}, {" bits 1", 1}, {" secret", 1}, {" .. 3", 1},
			{" 1 2", 3}, {" 1 x", 3}, {" 1 bit 3", 3}, {" 1 sink 2", 3},
			{" 1..", 4}, {" 1.. ..", 5}, {" 1..x", 4}, {" 1 .. bits 3", 6}, {" 1..2..3", 5}, {" 1..2 3", 6}, {" 1..2 x", 6},
			{" 1 bits", 7}, {" 1 bits x", 8}, {" 1 bits ..", 8}, {" 1 bits bits", 8}, {" 1 bits 1 2", 10}, {" 1 bits 1..2", 9}, {" 1 bits 1 bits 1", 10},
			{" 1..2 bits", 10}, {" 1..2 bits 0 x", 13}, {" 9..1 bits 0 trace", 13}, {" 40000 x", 7},
		} {
			wrong(t, word+c.s, 1, len(word)+1+c.col, api.ErrForm)
			wrong(t, "# a\n\t"+word+c.s+" # b\nx", 2, len(word)+2+c.col, api.ErrForm)
		}
	}
	for _, word := range []string{"declassify", "trace"} {
		for _, c := range []struct {
			s   string
			col int
		}{
			{"", 0}, {" x", 1}, {" ..", 1}, {" bits 1", 1}, {" " + word, 1}, {" 1 2", 3}, {" 1..2", 2}, {" 1 bits 1", 3}, {" 1 x", 3}, {" 9999 x", 6},
		} {
			wrong(t, word+c.s, 1, len(word)+1+c.col, api.ErrForm)
			wrong(t, word+" 1\n "+word+c.s+"\nx", 2, len(word)+2+c.col, api.ErrForm) // ahead of ErrThere
		}
	}
}

// P7.2
func TestParseOfRanges(t *testing.T) {
	wrong(t, "secret 1 bits 0", 1, 15, api.ErrRange)
	wrong(t, "secret 1 bits 256", 1, 15, api.ErrRange)
	wrong(t, "secret 1 bits 65535", 1, 15, api.ErrRange)
	wrong(t, "secret 1 bits 257", 1, 15, api.ErrRange) // whose lowest eight bits would do
	wrong(t, "sink 9..8 bits 0", 1, 16, api.ErrRange)  // ahead of the span's
	wrong(t, "sink 9..8 bits 1", 1, 6, api.ErrRange)
	wrong(t, "secret 32768", 1, 8, api.ErrRange)
	wrong(t, "secret 49151", 1, 8, api.ErrRange)
	wrong(t, "secret 32767..49152", 1, 8, api.ErrRange)
	wrong(t, "secret 1..65535", 1, 8, api.ErrRange)
	wrong(t, "secret 49151..49152", 1, 8, api.ErrRange)
	wrong(t, "secret 65535..65534", 1, 8, api.ErrRange)
	wrong(t, "sink 49152", 1, 6, api.ErrRange)
	wrong(t, "sink 32767..32768", 1, 6, api.ErrRange)
	for n := range 65536 {
		d, r := fmt.Sprintf("declassify %d", n), fmt.Sprintf("trace %d", n)
		if n <= 1000 {
			parses(t, d, policy.Policy{Declassify: n, Trace: 1024})
		} else {
			wrong(t, d, 1, 12, api.ErrRange)
		}
		if n >= 1 && n <= 4096 {
			parses(t, r, policy.Policy{Trace: n})
		} else {
			wrong(t, r, 1, 7, api.ErrRange)
		}
	}
}

// P7.2
func TestParseOfSeconds(t *testing.T) {
	wrong(t, "declassify 0\ndeclassify 0", 2, 1, api.ErrThere) // that it is 0 tells as well
	wrong(t, "trace 1024\n\n trace 1024", 3, 2, api.ErrThere)
	wrong(t, "declassify 1\ntrace 1\ndeclassify 2000", 3, 1, api.ErrThere)
	wrong(t, "trace 1\ndeclassify 1\n  trace 0", 3, 3, api.ErrThere)
	wrong(t, "secret 1\nsecret 2\n secret 1", 3, 2, api.ErrThere)
	wrong(t, "sink 1..5\nsink 5..6", 2, 1, api.ErrThere)
	wrong(t, "sink 1..5\nsecret 5..6", 2, 1, api.ErrKind)
	wrong(t, "secret 1..5\nsink 6..9\nsecret 5..6", 3, 1, api.ErrThere)
	wrong(t, "sink 6..9\nsecret 1..5\nsecret 5..6", 3, 1, api.ErrThere)
	wrong(t, "secret 1..5\nsink 6..9\nsink 5..6", 3, 1, api.ErrThere)
	wrong(t, "sink 6..9\nsecret 1..5\nsink 5..6", 3, 1, api.ErrThere)
	wrong(t, "secret 1 bits 1\nsecret 1 bits 2", 2, 1, api.ErrThere)
}

// P7.2
func TestParseOfManySpans(t *testing.T) {
	lines := func(n int) string {
		var s strings.Builder
		for i := range n {
			fmt.Fprintf(&s, "%s %d\n", []string{"secret", "sink"}[i%2], i)
		}
		return s.String()
	}
	p, _, e := policy.Parse(lines(64))
	if e != api.OK || len(p.Secrets) != 32 || len(p.Sinks) != 32 {
		t.Error(p, e)
	}
	wrong(t, lines(65), 65, 1, api.ErrFull)
	wrong(t, lines(66), 65, 1, api.ErrFull)
	wrong(t, lines(5000), 65, 1, api.ErrFull)
	wrong(t, lines(64)+" secret 0", 65, 2, api.ErrFull) // ahead of ErrThere
	wrong(t, lines(64)+"sink 0", 65, 1, api.ErrFull)    // ahead of ErrKind
	wrong(t, lines(64)+"sink 40000", 65, 6, api.ErrRange)
	wrong(t, lines(64)+"sink 99 bits 0", 65, 14, api.ErrRange)
	wrong(t, lines(64)+"sink 99 98", 65, 9, api.ErrForm)
	wrong(t, lines(63)+"sink 1", 64, 1, api.ErrThere)
	wrong(t, lines(63)+"sink 2", 64, 1, api.ErrKind)
	parsed, _, e := policy.Parse(lines(64) + "trace 3\ndeclassify 4")
	if e != api.OK || parsed.Trace != 3 || parsed.Declassify != 4 {
		t.Error(parsed, e)
	}
}

// rows calls look with all rows of words, up to a length.
func rows(words []string, length int, look func(s string)) {
	var row func(s string, left int)
	row = func(s string, left int) {
		look(s)
		for _, w := range words {
			if left > 0 {
				row(s+" "+w, left-1)
			}
		}
	}
	row("", length)
}

// P7.2
func TestParseOfAllShortLines(t *testing.T) {
	seen := map[api.Errno]int{}
	rows([]string{"secret", "sink", "bits", "declassify", "trace", "1", "..", "x"}, 4, func(s string) { seen[sameAsOracle(t, s)]++ })
	for _, word := range []string{"secret", "sink"} {
		rows([]string{"bits", "0", "9", "..", word}, 6, func(s string) { seen[sameAsOracle(t, word+s)]++ })
	}
	for _, e := range []api.Errno{api.OK, api.ErrName, api.ErrForm, api.ErrRange} {
		if seen[e] < 5 {
			t.Error(e, seen[e])
		}
	}
}

// some are lines of which some go with others, some do not, and some are wrong.
var some = []string{
	"secret 10..20", "sink 10..20", "secret 20", "sink 20 bits 1", "secret 21..30 bits 7", "sink 15", "sink 31..32", "secret 50000..50010", "secret 50010", "sink 50010",
	"secret 20..10", "sink 1 bits 0", "secret 1 bits", "declassify 0", "declassify 5", "declassify 1001", "trace 1", "trace 0", "trace 9 9", "", "# x", "x", "$",
}

// P7.2, P7.4
func TestParseOfSomeLines(t *testing.T) {
	seen := map[api.Errno]int{}
	for _, a := range some {
		for _, b := range some {
			for _, c := range some {
				s := a + "\n" + b + "\n " + c
				e := sameAsOracle(t, s)
				seen[e]++
				if e == api.OK {
					p, _, _ := policy.Parse(s)
					checks(t, p, api.OK)
					comesBack(t, p)
				}
			}
		}
	}
	for _, e := range []api.Errno{api.OK, api.ErrName, api.ErrForm, api.ErrRange, api.ErrThere, api.ErrKind} {
		if seen[e] < 50 {
			t.Error(e, seen[e])
		}
	}
}

func prints(t *testing.T, p policy.Policy, want string, we api.Errno) {
	t.Helper()
	if s, e := policy.Print(p); s != want || e != we {
		t.Errorf("Print(%.200v): %q, %v, not %q, %v", p, s, e, want, we)
	}
}

// P7.3
func TestPrint(t *testing.T) {
	p, _, e := policy.Parse("sink $0300\nsecret $0200..$02ff bits $0f")
	if e != api.OK {
		t.Error(e)
	}
	prints(t, p, "secret $0200 .. $02ff bits $0f\nsink $0300\ndeclassify $00\ntrace $0400\n", api.OK)
	for _, c := range []struct {
		s    policy.Span
		want string
	}{
		{span(0, 0, 255), "$00"}, {span(0, 1, 255), "$00 .. $01"}, {span(255, 256, 255), "$ff .. $0100"}, {span(32767, 32767, 255), "$7fff"},
		{span(7, 7, 1), "$07 bits $01"}, {span(7, 7, 254), "$07 bits $fe"}, {span(0, 32767, 128), "$00 .. $7fff bits $80"},
		{span(1, 2, 1), "$01 .. $02 bits $01"}, {span(255, 255, 255), "$ff"}, {span(1, 255, 255), "$01 .. $ff"}, {span(1, 255, 1), "$01 .. $ff bits $01"},
	} {
		prints(t, of([]policy.Span{c.s}, nil), "secret "+c.want+"\ndeclassify $00\ntrace $0400\n", api.OK)
		prints(t, of(nil, []policy.Span{c.s}), "sink "+c.want+"\ndeclassify $00\ntrace $0400\n", api.OK)
	}
	prints(t, of([]policy.Span{span(49152, 65535, 255)}, nil), "secret $c000 .. $ffff\ndeclassify $00\ntrace $0400\n", api.OK)
	prints(t, policy.Policy{Trace: 1}, "declassify $00\ntrace $01\n", api.OK)
	prints(t, policy.Policy{Declassify: 1000, Trace: 4096}, "declassify $03e8\ntrace $1000\n", api.OK)
	prints(t, policy.Policy{Declassify: 255, Trace: 256}, "declassify $ff\ntrace $0100\n", api.OK)
	prints(t, policy.Policy{
		Secrets: []policy.Span{span(50000, 50000, 255), span(3, 4, 255), span(1, 1, 2)},
		Sinks:   []policy.Span{span(9, 9, 255), span(8, 8, 8), span(0, 0, 255)},
		Trace:   5,
	}, "secret $01 bits $02\nsecret $03 .. $04\nsecret $c350\nsink $00\nsink $08 bits $08\nsink $09\ndeclassify $00\ntrace $05\n", api.OK)
}

// P7.3
func TestPrintOfWrongPolicies(t *testing.T) {
	prints(t, policy.Policy{}, "", api.ErrRange)
	prints(t, policy.Policy{Trace: 4097}, "", api.ErrRange)
	prints(t, policy.Policy{Trace: 1, Declassify: 1001}, "", api.ErrRange)
	prints(t, of(singles(0, 65), nil), "", api.ErrFull)
	prints(t, of([]policy.Span{span(1, 1, 0)}, nil), "", api.ErrRange)
	prints(t, of([]policy.Span{span(1, 2, 1), span(2, 3, 1)}, nil), "", api.ErrThere)
	prints(t, of([]policy.Span{span(1, 2, 1)}, []policy.Span{span(2, 3, 1)}), "", api.ErrKind)
	for _, a := range few {
		for _, b := range few {
			p := of([]policy.Span{a}, []policy.Span{b})
			if s, e := policy.Print(p); e != policy.Check(p) || (s == "") != (e != api.OK) {
				t.Error(p, s, e)
			}
		}
	}
}

// P7.3
func TestFine(t *testing.T) {
	for s, want := range map[string]bool{"": true, "trace 1": true, "trace 0": false, "x": false, "$": false, "secret 1\nsink 1": false, "secret 1\nsink 2": true, strings.Repeat("\n", 65536): true, strings.Repeat("\n", 65537): false} {
		if policy.Fine(s) != want {
			t.Errorf("Fine(%.20q)", s)
		}
	}
}

// comesBack holds that Parse of Print is the policy, Sorted.
func comesBack(t *testing.T, p policy.Policy) {
	t.Helper()
	s, e := policy.Print(p)
	q, at, f := policy.Parse(s)
	if e != api.OK || f != api.OK || at != (lexer.Place{}) || !equal(q, policy.Sorted(p)) || !policy.Same(p, q) || policy.Check(q) != api.OK {
		t.Errorf("Print(%.200v): %q, %v, and back %v, %v, %v", p, s, e, q, at, f)
	}
}

// P7.4
func TestParseOfPrint(t *testing.T) {
	for bits := 1; bits < 256; bits++ {
		comesBack(t, of([]policy.Span{span(bits*7, bits*7+bits%3, byte(bits))}, []policy.Span{span(bits, bits+bits%2, byte(256-bits))}))
	}
	for n := range 1001 {
		comesBack(t, policy.Policy{Declassify: n, Trace: 4096 - n})
	}
	for n := 1; n <= 4096; n++ {
		comesBack(t, policy.Policy{Trace: n})
	}
	for from := range 65536 {
		if from <= 32767 || from >= 49152 {
			comesBack(t, of([]policy.Span{span(from, min(from|1, from+from%5), 255)}, nil))
		}
	}
	for _, a := range few {
		for _, b := range few {
			if p := of([]policy.Span{a, b}, nil); policy.Check(p) == api.OK {
				comesBack(t, p)
			}
		}
	}
	full := of(singles(65472, 64), nil)
	slices.Reverse(full.Secrets)
	comesBack(t, full)
	wide := policy.Policy{Declassify: 1000, Trace: 4096}
	for i := range 32 {
		wide.Secrets = append(wide.Secrets, span(65535-2*i-1, 65535-2*i, 254))
		wide.Sinks = append(wide.Sinks, span(32767-2*i-1, 32767-2*i, 254))
	}
	comesBack(t, wide)
}
