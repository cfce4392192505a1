package lexer_test

import (
	"fmt"
	"math"
	"math/big"
	"regexp"
	"slices"
	"strings"
	"testing"

	"cochineal/api"
	"cochineal/lexer"
)

const letters = "abcdefghijklmnopqrstuvwxyz"

func word(line, col int, s string) lexer.Token {
	return lexer.Token{Kind: lexer.Word, Text: s, At: lexer.Place{Line: line, Col: col}}
}

func number(line, col, n int) lexer.Token {
	return lexer.Token{Kind: lexer.Number, N: n, At: lexer.Place{Line: line, Col: col}}
}

func dots(line, col int) lexer.Token {
	return lexer.Token{Kind: lexer.Dots, At: lexer.Place{Line: line, Col: col}}
}

func end(line, col int) lexer.Token {
	return lexer.Token{Kind: lexer.End, At: lexer.Place{Line: line, Col: col}}
}

// told holds what Scan tells of a text that is not wrong.
func told(t *testing.T, s string, want ...lexer.Token) {
	t.Helper()
	if l, at, e := lexer.Scan(s); !slices.Equal(l, want) || at != (lexer.Place{}) || e != api.OK {
		t.Errorf("Scan(%.60q): %v, %v, %v, not %v", s, l, at, e, want)
	}
}

// wrong holds what Scan tells of a text that is wrong.
func wrong(t *testing.T, s string, line, col int, want api.Errno) {
	t.Helper()
	if l, at, e := lexer.Scan(s); len(l) != 0 || at != (lexer.Place{Line: line, Col: col}) || e != want {
		t.Errorf("Scan(%.60q): %v, %v, %v, not %d, %d, %v", s, l, at, e, line, col, want)
	}
}

// form, as it stands in the chapter, tells the longest token, and what may not stand right behind it.
var form = regexp.MustCompile(`^(?:([a-z]+)|\$([0-9a-f]+)|([0-9]+)|(\.\.))`)

// oracle is Scan by the chapter's words, written otherwise.
func oracle(s string) ([]lexer.Token, lexer.Place, api.Errno) {
	if len(s) > 65536 {
		return nil, lexer.Place{}, api.ErrLong
	}
	var all []lexer.Token
	for i, line := range strings.Split(s, "\n") {
		at := func(left string) lexer.Place { return lexer.Place{Line: i + 1, Col: len(line) - len(left) + 1} }
		if len(line) > 1000 {
			return nil, lexer.Place{Line: i + 1, Col: 1001}, api.ErrLong
		}
		behind := lexer.Place{}
		for left := line; ; {
			left = strings.TrimLeft(left, " \t")
			if left == "" || left[0] == '#' {
				break
			}
			m := form.FindStringSubmatch(left)
			if m == nil && (left[0] == '$' || left[0] == '.') {
				return nil, at(left), api.ErrForm
			}
			if m == nil {
				return nil, at(left), api.ErrMark
			}
			rest := left[len(m[0]):]
			if m[4] == "" && regexp.MustCompile(`^[a-z0-9$]`).MatchString(rest) {
				return nil, at(left), api.ErrForm
			}
			n := new(big.Int)
			if m[2] != "" {
				n.SetString(m[2], 16)
			} else if m[3] != "" {
				n.SetString(m[3], 10)
			}
			if n.Cmp(big.NewInt(65535)) > 0 {
				return nil, at(left), api.ErrRange
			}
			t := lexer.Token{Kind: lexer.Number, N: int(n.Int64()), At: at(left)}
			if m[1] != "" {
				t.Kind, t.Text = lexer.Word, m[1]
			} else if m[4] != "" {
				t.Kind = lexer.Dots
			}
			all = append(all, t)
			left = rest
			behind = at(left)
		}
		if behind != (lexer.Place{}) {
			all = append(all, lexer.Token{Kind: lexer.End, At: behind})
		}
	}
	return all, lexer.Place{}, api.OK
}

// sameAsOracle holds Scan against the chapter's words.
func sameAsOracle(t *testing.T, s string) {
	t.Helper()
	l, at, e := lexer.Scan(s)
	ol, oat, oe := oracle(s)
	if !slices.Equal(l, ol) || at != oat || e != oe {
		t.Errorf("Scan(%.60q): %v, %v, %v, not %v, %v, %v", s, l, at, e, ol, oat, oe)
	}
}

// P6.1
func TestScanOfExamples(t *testing.T) {
	told(t, "secret $0200..$02ff # x", word(1, 1, "secret"), number(1, 8, 512), dots(1, 13), number(1, 15, 767), end(1, 20))
	told(t, "declassify 10\ntrace $0400\n", word(1, 1, "declassify"), number(1, 12, 10), end(1, 14), word(2, 1, "trace"), number(2, 7, 1024), end(2, 12))
}

// P6.1
func TestKindsAreNumbered(t *testing.T) {
	if lexer.Word != 1 || lexer.Number != 2 || lexer.Dots != 3 || lexer.End != 4 || lexer.MaxLine != 1000 {
		t.Error(lexer.Word, lexer.Number, lexer.Dots, lexer.End, lexer.MaxLine)
	}
}

// P6.1
func TestScanOfNothing(t *testing.T) {
	for _, s := range []string{"", " ", "\t", "\n", "\n\n\n", " \n\t\n", "#", "##", " # remark", "#\n#\n", "\t# $ . A é \x00 \x80 99999 12x\n \t#", strings.Repeat("\n", 65536)} {
		told(t, s)
	}
}

// P6.1
func TestScanOfWords(t *testing.T) {
	told(t, letters, word(1, 1, letters), end(1, 27))
	for i := range letters {
		told(t, letters[i:i+1], word(1, 1, letters[i:i+1]), end(1, 2))
	}
	told(t, "a b\tc", word(1, 1, "a"), word(1, 3, "b"), word(1, 5, "c"), end(1, 6))
	told(t, "e", word(1, 1, "e"), end(1, 2)) // no number, without its dollar
	told(t, "ff", word(1, 1, "ff"), end(1, 3))
	long := strings.Repeat("z", 1000)
	told(t, long+"\n"+long, word(1, 1, long), end(1, 1001), word(2, 1, long), end(2, 1001))
}

// P6.1
func TestScanOfNumbers(t *testing.T) {
	for n := range 65536 {
		told(t, fmt.Sprint(n), number(1, 1, n), end(1, len(fmt.Sprint(n))+1))
		told(t, fmt.Sprintf("$%x", n), number(1, 1, n), end(1, len(fmt.Sprintf("$%x", n))+1))
	}
	told(t, "0000010", number(1, 1, 10), end(1, 8))
	told(t, "$0000010", number(1, 1, 16), end(1, 9))
	told(t, strings.Repeat("0", 995)+"65535", number(1, 1, 65535), end(1, 1001))
	told(t, "$"+strings.Repeat("0", 995)+"ffff", number(1, 1, 65535), end(1, 1001))
	told(t, "$0", number(1, 1, 0), end(1, 3))
	told(t, "0 $a 1", number(1, 1, 0), number(1, 3, 10), number(1, 6, 1), end(1, 7))
}

// P6.1
func TestScanOfNumbersAboveAll(t *testing.T) {
	for _, s := range []string{"65536", "65537", "70000", "99999", "100000", "131072", "4294967296", "4294967297", "18446744073709551616", "18446744073709551617", "000065536",
		"$10000", "$10001", "$fffff", "$100000000", "$100000001", "$10000000000000000", "$10000000000000001", "$00010000",
		strings.Repeat("9", 1000), "$" + strings.Repeat("f", 999), "1" + strings.Repeat("0", 999), "$1" + strings.Repeat("0", 998)} {
		wrong(t, s, 1, 1, api.ErrRange)
		wrong(t, "\n "+s[:min(len(s), 999)], 2, 2, api.ErrRange)
	}
	wrong(t, "0 65536 65537", 1, 3, api.ErrRange)
	wrong(t, "a..$10000..b", 1, 4, api.ErrRange)
}

// P6.1
func TestScanOfDots(t *testing.T) {
	told(t, "..", dots(1, 1), end(1, 3))
	told(t, "....", dots(1, 1), dots(1, 3), end(1, 5))
	told(t, ".. ..", dots(1, 1), dots(1, 4), end(1, 6))
	told(t, "a..b", word(1, 1, "a"), dots(1, 2), word(1, 4, "b"), end(1, 5))
	told(t, "1..2", number(1, 1, 1), dots(1, 2), number(1, 4, 2), end(1, 5))
	told(t, "$1..$2", number(1, 1, 1), dots(1, 3), number(1, 5, 2), end(1, 7))
	told(t, "..$ff#", dots(1, 1), number(1, 3, 255), end(1, 6))
	wrong(t, ".", 1, 1, api.ErrForm)
	wrong(t, "...", 1, 3, api.ErrForm)
	wrong(t, ". .", 1, 1, api.ErrForm)
	wrong(t, ".\n.", 1, 1, api.ErrForm)
	wrong(t, "..\n.", 2, 1, api.ErrForm)
	wrong(t, ".a", 1, 1, api.ErrForm)
	wrong(t, "a.b", 1, 2, api.ErrForm)
	wrong(t, "1.5", 1, 2, api.ErrForm)
	wrong(t, ".#.", 1, 1, api.ErrForm)
}

// P6.1
func TestScanOfEnds(t *testing.T) {
	for _, behind := range []string{"", "\n", " ", "\t", "#", " \t #x", "# a 1 .. $", " \n", "#\n", "\n\n", "\n \n# b\n"} {
		told(t, "abc"+behind, word(1, 1, "abc"), end(1, 4))
		told(t, " \t$0f"+behind, number(1, 3, 15), end(1, 6))
	}
	told(t, "\n\n a\n\nb", word(3, 2, "a"), end(3, 3), word(5, 1, "b"), end(5, 2))
	told(t, "# a\nb # c\n # d\n", word(2, 1, "b"), end(2, 2))
	told(t, "a#b\nc", word(1, 1, "a"), end(1, 2), word(2, 1, "c"), end(2, 2))
}

// P6.1
func TestScanOfLongLines(t *testing.T) {
	for _, mark := range []string{" ", "\t", "#", "a", "1", ".", "$", "A", "\x80"} {
		line := strings.Repeat(mark, 1001)
		wrong(t, line, 1, 1001, api.ErrLong) // whatever else is wrong with it
		wrong(t, line+"\n$", 1, 1001, api.ErrLong)
		wrong(t, "a\n\n"+line, 3, 1001, api.ErrLong)
		wrong(t, "$\n"+line, 1, 1, api.ErrForm) // but not with a line ahead of it
		wrong(t, "a 65536\n"+line, 1, 3, api.ErrRange)
		wrong(t, line+line+"\n"+line, 1, 1001, api.ErrLong)
	}
	full := strings.Repeat(" ", 999) + "a"
	told(t, full, word(1, 1000, "a"), end(1, 1001))
	told(t, full+"\n"+full+"\n", word(1, 1000, "a"), end(1, 1001), word(2, 1000, "a"), end(2, 1001)) // the line feed is none of a line's bytes
	told(t, "a#"+strings.Repeat("é", 499), word(1, 1, "a"), end(1, 2))
	wrong(t, "a#"+strings.Repeat("é", 499)+"x", 1, 1001, api.ErrLong)
	wrong(t, full[:999]+"$", 1, 1000, api.ErrForm)
	wrong(t, full[:999]+".", 1, 1000, api.ErrForm)
	wrong(t, full[:999]+"A", 1, 1000, api.ErrMark)
	wrong(t, full+".", 1, 1001, api.ErrLong)
}

// P6.1
func TestScanOfLongTexts(t *testing.T) {
	told(t, strings.Repeat("\n", 65535)+"a", word(65536, 1, "a"), end(65536, 2))
	told(t, "a"+strings.Repeat("\n", 65535), word(1, 1, "a"), end(1, 2))
	wrong(t, strings.Repeat("\n", 65535)+"A", 65536, 1, api.ErrMark)
	for _, s := range []string{strings.Repeat("\n", 65537), "A" + strings.Repeat("\n", 65536), strings.Repeat("\n", 65536) + "a", strings.Repeat("$", 65537), strings.Repeat(" ", 1<<20)} {
		wrong(t, s, 0, 0, api.ErrLong)
	}
	full := strings.Repeat("a ..\n", 13107) + "b"
	l, at, e := lexer.Scan(full)
	if len(full) != 65536 || len(l) != 3*13107+2 || l[len(l)-2] != word(13108, 1, "b") || at != (lexer.Place{}) || e != api.OK {
		t.Error(len(full), len(l), at, e)
	}
}

// P6.1
func TestScanOfMarks(t *testing.T) {
	for b := range 256 {
		s := string([]byte{byte(b)})
		switch {
		case strings.Contains(letters, s):
			told(t, s, word(1, 1, s), end(1, 2))
		case strings.Contains("0123456789", s):
			told(t, s, number(1, 1, b-'0'), end(1, 2))
		case strings.Contains(" \t\n#", s):
			told(t, s)
		case s == "$" || s == ".":
			wrong(t, s, 1, 1, api.ErrForm)
		default:
			wrong(t, s, 1, 1, api.ErrMark)
			wrong(t, "a\n\n\t"+s, 3, 2, api.ErrMark)
			wrong(t, "..1"+s+"$", 1, 4, api.ErrMark)
			wrong(t, "$1"+s, 1, 3, api.ErrMark)
			wrong(t, "a"+s+"a", 1, 2, api.ErrMark)
			wrong(t, "$"+s, 1, 1, api.ErrForm)
		}
	}
	wrong(t, "a\r\nb", 1, 2, api.ErrMark)
	wrong(t, "é", 1, 1, api.ErrMark)
	wrong(t, "a １", 1, 3, api.ErrMark)
	wrong(t, "# é\né", 2, 1, api.ErrMark)
}

// P6.1
func TestScanOfWrongForms(t *testing.T) {
	for _, s := range []string{"$", "$ 1", "$\n1", "$#1", "$g", "$$", "$$1", "$.", "$..", "$-1", "$F", "12x", "1a", "1$", "1$1", "$1$", "$1$1", "$1g", "$fz", "x1", "x12", "x$", "x$1", "0x10", "65536a", "$10000g", "65536$"} {
		wrong(t, s, 1, 1, api.ErrForm)
		wrong(t, "a\n .. "+s, 2, 5, api.ErrForm)
		wrong(t, s+" - 65536", 1, 1, api.ErrForm)
	}
	for i := range letters {
		for _, ahead := range []string{"0", "9", "65535", "65536"} {
			wrong(t, ahead+letters[i:i+1], 1, 1, api.ErrForm)
		}
	}
}

// P6.1
func TestScanTellsTheFirst(t *testing.T) {
	wrong(t, "- $ 65536", 1, 1, api.ErrMark)
	wrong(t, "$ - 65536", 1, 1, api.ErrForm)
	wrong(t, "65536 $ -", 1, 1, api.ErrRange)
	wrong(t, "65536-", 1, 1, api.ErrRange)
	wrong(t, "a-1x", 1, 2, api.ErrMark)
	wrong(t, "a\n1x\n-", 2, 1, api.ErrForm)
	wrong(t, "a # $\n.. # -\n65536", 3, 1, api.ErrRange)
}

// texts are all texts of some bytes, up to a length.
func texts(bytes string, length int) []string {
	all := []string{""}
	for from := 0; length > 0; length-- {
		last := len(all)
		for _, s := range all[from:last] {
			for i := range len(bytes) {
				all = append(all, s+bytes[i:i+1])
			}
		}
		from = last
	}
	return all
}

// P6.1
func TestScanOfAllShortTexts(t *testing.T) {
	for _, s := range texts("ag1$. #\nA", 5) {
		sameAsOracle(t, s)
	}
	for _, s := range texts("f6$.\t\n", 6) {
		sameAsOracle(t, s)
	}
}

// P6.1
func TestScanOfAllPairsOfBytes(t *testing.T) {
	for b := range 256 {
		for c := range 256 {
			pair := string([]byte{byte(b), byte(c)})
			sameAsOracle(t, pair)
			sameAsOracle(t, "\nz 1"+pair+"$e..")
		}
	}
}

// P6.2
func TestText(t *testing.T) {
	for _, c := range []struct {
		t lexer.Token
		s string
		e api.Errno
	}{
		{word(0, 0, "a"), "a", api.OK}, {word(9, 9, "z"), "z", api.OK}, {word(0, 0, letters), letters, api.OK}, {word(-1, -1, "secret"), "secret", api.OK},
		{word(0, 0, strings.Repeat("q", 100000)), strings.Repeat("q", 100000), api.OK},
		{dots(0, 0), "..", api.OK}, {end(0, 0), "\n", api.OK}, {end(7, 1001), "\n", api.OK},
		{word(0, 0, ""), "", api.ErrForm}, {word(0, 0, "A"), "", api.ErrForm}, {word(0, 0, "aB"), "", api.ErrForm}, {word(0, 0, "a1"), "", api.ErrForm}, {word(0, 0, "1"), "", api.ErrForm},
		{word(0, 0, " a"), "", api.ErrForm}, {word(0, 0, "a "), "", api.ErrForm}, {word(0, 0, "a b"), "", api.ErrForm}, {word(0, 0, "a\n"), "", api.ErrForm}, {word(0, 0, "é"), "", api.ErrForm},
		{word(0, 0, "a\x80"), "", api.ErrForm}, {word(0, 0, "\x00"), "", api.ErrForm}, {word(0, 0, "a#"), "", api.ErrForm}, {word(0, 0, ".."), "", api.ErrForm}, {word(0, 0, "$a"), "", api.ErrForm},
		{number(0, 0, -1), "", api.ErrRange}, {number(0, 0, 65536), "", api.ErrRange}, {number(0, 0, math.MaxInt), "", api.ErrRange}, {number(0, 0, math.MinInt), "", api.ErrRange}, {number(0, 0, 1<<32), "", api.ErrRange},
		// Fields that are not the kind's are not asked.
		{lexer.Token{Kind: lexer.Word, Text: "a", N: -1}, "a", api.OK}, {lexer.Token{Kind: lexer.Number, Text: "A", N: 1}, "$01", api.OK},
		{lexer.Token{Kind: lexer.Dots, Text: "A", N: -1}, "..", api.OK}, {lexer.Token{Kind: lexer.End, Text: "A", N: 65536}, "\n", api.OK},
	} {
		if s, e := lexer.Text(c.t); s != c.s || e != c.e {
			t.Errorf("Text(%.60v): %.60q, %v, not %.60q, %v", c.t, s, e, c.s, c.e)
		}
	}
	for b := range 256 {
		s := string([]byte{'k', byte(b), 'm'})
		is := b >= 'a' && b <= 'z'
		got, e := lexer.Text(word(0, 0, s))
		if is && (got != s || e != api.OK) || !is && (got != "" || e != api.ErrForm) {
			t.Errorf("Text(%q): %q, %v", s, got, e)
		}
	}
}

// P6.2
func TestTextOfNumbers(t *testing.T) {
	for n := range 65536 {
		want := fmt.Sprintf("$%02x", n)
		if n > 255 {
			want = fmt.Sprintf("$%04x", n)
		}
		if s, e := lexer.Text(number(0, 0, n)); s != want || e != api.OK {
			t.Errorf("Text(%d): %q, %v, not %q", n, s, e, want)
		}
	}
}

// P6.2
func TestTextOfNoKind(t *testing.T) {
	for _, kind := range []int{0, 5, 6, -1, 255, math.MaxInt, math.MinInt} {
		for _, x := range []lexer.Token{{Kind: kind}, {Kind: kind, Text: "a", N: 1}, {Kind: kind, Text: "A", N: -1}} {
			if s, e := lexer.Text(x); s != "" || e != api.ErrKind {
				t.Errorf("Text(%v): %q, %v", x, s, e)
			}
		}
	}
}

// P6.2
func TestJoin(t *testing.T) {
	a, n, d, f := word(0, 0, "a"), number(0, 0, 300), dots(0, 0), end(0, 0)
	for _, c := range []struct {
		l []lexer.Token
		s string
	}{
		{nil, ""}, {[]lexer.Token{a}, "a"}, {[]lexer.Token{n}, "$012c"}, {[]lexer.Token{d}, ".."}, {[]lexer.Token{f}, "\n"},
		{[]lexer.Token{a, a}, "a a"}, {[]lexer.Token{d, d}, ".. .."}, {[]lexer.Token{f, f}, "\n\n"}, {[]lexer.Token{a, f}, "a\n"}, {[]lexer.Token{f, a}, "\na"},
		{[]lexer.Token{a, n, d, n, f, a, n}, "a $012c .. $012c\na $012c"}, {[]lexer.Token{a, f, f, a}, "a\n\na"}, {[]lexer.Token{n, n, f, d, a, f}, "$012c $012c\n.. a\n"},
	} {
		if s, e := lexer.Join(c.l...); s != c.s || e != api.OK {
			t.Errorf("Join(%v): %q, %v, not %q", c.l, s, e, c.s)
		}
	}
	if s, e := lexer.Join(); s != "" || e != api.OK {
		t.Errorf("Join(): %q, %v", s, e)
	}
}

// P6.2
func TestJoinOfWrongTokens(t *testing.T) {
	a, noWord, noNumber, noKind := word(0, 0, "a"), word(0, 0, "A"), number(0, 0, 65536), lexer.Token{}
	for _, c := range []struct {
		l []lexer.Token
		e api.Errno
	}{
		{[]lexer.Token{noWord}, api.ErrForm}, {[]lexer.Token{noNumber}, api.ErrRange}, {[]lexer.Token{noKind}, api.ErrKind}, {[]lexer.Token{a, a, noKind}, api.ErrKind},
		{[]lexer.Token{a, noWord, noKind, noNumber}, api.ErrForm}, {[]lexer.Token{a, noNumber, noWord, noKind}, api.ErrRange}, {[]lexer.Token{noKind, noWord, a}, api.ErrKind}, {[]lexer.Token{end(0, 0), noNumber}, api.ErrRange},
	} {
		if s, e := lexer.Join(c.l...); s != "" || e != c.e {
			t.Errorf("Join(%v): %q, %v, not %v", c.l, s, e, c.e)
		}
	}
}

// P6.2, R2
func TestTokensThatAreHandedInStay(t *testing.T) {
	whole := []lexer.Token{word(1, 1, "a"), number(1, 3, 300), end(1, 6), {Kind: 9}, word(2, 1, "b")}
	l := slices.Clone(whole)
	if s, e := lexer.Join(l[:3]...); s != "a $012c\n" || e != api.OK {
		t.Errorf("%q, %v", s, e)
	}
	lexer.Join(l...)
	if !slices.Equal(l, whole) {
		t.Error(l)
	}
}

// P6.1, R2
func TestTokensAreTheCallers(t *testing.T) {
	const s = "a 1\nb .."
	first, _, _ := lexer.Scan(s)
	clear(first[:cap(first)])
	told(t, s, word(1, 1, "a"), number(1, 3, 1), end(1, 4), word(2, 1, "b"), dots(2, 3), end(2, 5))
}

// placeless are tokens without their places.
func placeless(l []lexer.Token) []lexer.Token {
	l = slices.Clone(l)
	for i := range l {
		l[i].At = lexer.Place{}
	}
	return l
}

// sameAgain holds that Scan of Join of what Scan told of a text tells the same.
func sameAgain(t *testing.T, s string) {
	t.Helper()
	l, _, e := lexer.Scan(s)
	if e != api.OK {
		return
	}
	joined, e := lexer.Join(l...)
	if e != api.OK {
		t.Errorf("Join of Scan(%.60q): %v", s, e)
	}
	again, at, e := lexer.Scan(joined)
	if !slices.Equal(placeless(l), placeless(again)) || at != (lexer.Place{}) || e != api.OK {
		t.Errorf("Scan of Join of Scan(%.60q): %v, %v, %v, not %v", s, again, at, e, l)
	}
}

// P6.3
func TestScanOfJoinIsTheSame(t *testing.T) {
	for _, s := range texts("ag1$. #\n", 5) {
		sameAgain(t, s)
	}
	for _, s := range []string{
		"secret $0200..$02ff # x", "\tsecret $0200 .. 767\n\n# remark\n  bits..$f#x", strings.Repeat("z", 1000), strings.Repeat("..", 333) + "\n" + strings.Repeat("1 ", 200),
		"65535 $ffff 255 256 0", strings.Repeat("trace 1024 # again\n", 3000), strings.Repeat(" \n#\n", 10000),
	} {
		sameAgain(t, s)
	}
	for n := range 65536 {
		sameAgain(t, fmt.Sprint(n))
	}
}

// P6.3
func TestRemarksAndBlanksDoNotCount(t *testing.T) {
	for _, c := range [][]string{
		{"a 1..2\nb", " a\t1 .. 2 # c\n\n#\n\tb#\n", "#x\na  1..  2\n\n\nb \t"},
		{"..", " .. ", "..#..", "\n\n..\n\n"},
		{"", " ", "#", "\n", "# a\n# b\n\t"},
	} {
		want, _, _ := lexer.Scan(c[0])
		for _, s := range c[1:] {
			l, _, e := lexer.Scan(s)
			if !slices.Equal(placeless(l), placeless(want)) || e != api.OK {
				t.Errorf("Scan(%q): %v, %v, not %v", s, l, e, want)
			}
		}
	}
}

// P6.3
func TestJoinMayTellALineThatIsTooLong(t *testing.T) {
	l, _, e := lexer.Scan(strings.Repeat("1 ", 250))
	joined, _ := lexer.Join(l...)
	if e != api.OK || len(joined) != 1000 {
		t.Fatal(e, len(joined))
	}
	sameAgain(t, strings.Repeat("1 ", 250))
	l, _, _ = lexer.Scan(strings.Repeat("1 ", 251))
	joined, _ = lexer.Join(l...)
	wrong(t, joined, 1, 1001, api.ErrLong)
}
