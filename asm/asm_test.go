package asm_test

import (
	"bytes"
	"fmt"
	"math"
	"regexp"
	"slices"
	"strings"
	"testing"

	"cochineal/api"
	"cochineal/asm"
	"cochineal/opcode"
)

// kinds are the chapter's kinds of what is behind a name, by modes: nn are two digits, nnnn four.
var kinds = map[int]string{
	opcode.Imp: "", opcode.Acc: " A", opcode.Imm: " #$nn", opcode.Zp: " $nn", opcode.ZpX: " $nn,X", opcode.ZpY: " $nn,Y",
	opcode.Abs: " $nnnn", opcode.AbsX: " $nnnn,X", opcode.AbsY: " $nnnn,Y",
	opcode.IndX: " ($nn,X)", opcode.IndY: " ($nn),Y", opcode.Ind: " ($nnnn)", opcode.Rel: " $nnnn",
}

// highest is the greatest number of a mode.
func highest(mode int) int {
	switch mode {
	case opcode.Imp, opcode.Acc:
		return 0
	case opcode.Abs, opcode.AbsX, opcode.AbsY, opcode.Ind, opcode.Rel:
		return 65535
	}
	return 255
}

// behind is what is behind a name, by the chapter's words.
func behind(mode, n int) string {
	s := strings.Replace(kinds[mode], "nnnn", fmt.Sprintf("%04X", n), 1)
	return strings.Replace(s, "nn", fmt.Sprintf("%02X", n), 1)
}

// numbers are some that a line of a mode may have, the least and the greatest one among them.
func numbers(mode int) []int {
	l := []int{0, 1, 9, 10, 15, 16, 0x7f, 0x80, 0xab, 0xfe, 255}
	if highest(mode) > 255 {
		l = append(l, 256, 0x1fe, 0xabc, 0xcdef, 0x7fff, 0x8000, 0xff00, 65534, 65535)
	}
	return slices.DeleteFunc(l, func(n int) bool { return n > highest(mode) })
}

// noNumbers are some that a line of a mode may not have.
func noNumbers(mode int) []int {
	top := highest(mode)
	return []int{-1, -2, -128, -256, -65536, top + 1, top + 2, 65536, 65537, 1 << 20, 1 << 32, 1<<32 + 1, math.MaxInt, math.MinInt}
}

// noPlaces are no addresses.
var noPlaces = []int{-1, -2, -65536, 65536, 65537, 1 << 32, math.MaxInt, math.MaxInt - 1, math.MinInt, math.MinInt + 1}

// noOpcodes are the bytes that are none.
func noOpcodes() []byte {
	var l []byte
	for b := range 256 {
		if _, e := opcode.Of(byte(b)); e != api.OK {
			l = append(l, byte(b))
		}
	}
	return l
}

// wantBytes is a line's bytes by the chapter's words.
func wantBytes(l asm.Line, mode, at int) ([]byte, bool) {
	switch n := l.N; mode {
	case opcode.Imp, opcode.Acc:
		return []byte{l.Op}, at+1 <= 65536
	case opcode.Abs, opcode.AbsX, opcode.AbsY, opcode.Ind:
		return []byte{l.Op, byte(n % 256), byte(n / 256)}, at+3 <= 65536
	case opcode.Rel:
		far := n - (at + 2)
		ok := far >= -128 && far <= 127 && at+2 <= 65536
		if far < 0 {
			far += 256
		}
		return []byte{l.Op, byte(far)}, ok
	}
	return []byte{l.Op, byte(l.N)}, at+2 <= 65536
}

// examples are lines with their texts, and their bytes at 512.
var examples = []struct {
	l asm.Line
	s string
	b string
}{
	{asm.Line{Op: 0xa9, N: 16}, "LDA #$10", "\xa9\x10"},
	{asm.Line{Op: 0xd0, N: 510}, "BNE $01FE", "\xd0\xfc"},
	{asm.Line{Op: 0xd0, N: 512}, "BNE $0200", "\xd0\xfe"},
	{asm.Line{Op: 0xf0, N: 514}, "BEQ $0202", "\xf0\x00"},
	{asm.Line{Op: 0x90, N: 641}, "BCC $0281", "\x90\x7f"},
	{asm.Line{Op: 0xb0, N: 386}, "BCS $0182", "\xb0\x80"},
	{asm.Line{Op: 0x00}, "BRK", "\x00"},
	{asm.Line{Op: 0xea}, "NOP", "\xea"},
	{asm.Line{Op: 0x0a}, "ASL A", "\x0a"},
	{asm.Line{Op: 0x6a}, "ROR A", "\x6a"},
	{asm.Line{Op: 0x65, N: 0}, "ADC $00", "\x65\x00"},
	{asm.Line{Op: 0x65, N: 10}, "ADC $0A", "\x65\x0a"},
	{asm.Line{Op: 0x6d, N: 10}, "ADC $000A", "\x6d\x0a\x00"},
	{asm.Line{Op: 0x95, N: 0x80}, "STA $80,X", "\x95\x80"},
	{asm.Line{Op: 0x96, N: 0xff}, "STX $FF,Y", "\x96\xff"},
	{asm.Line{Op: 0x20, N: 0xc000}, "JSR $C000", "\x20\x00\xc0"},
	{asm.Line{Op: 0xfe, N: 0xabcd}, "INC $ABCD,X", "\xfe\xcd\xab"},
	{asm.Line{Op: 0xbe, N: 0x12ef}, "LDX $12EF,Y", "\xbe\xef\x12"},
	{asm.Line{Op: 0x61, N: 0x0f}, "ADC ($0F,X)", "\x61\x0f"},
	{asm.Line{Op: 0x91, N: 0xf0}, "STA ($F0),Y", "\x91\xf0"},
	{asm.Line{Op: 0x6c, N: 0xffff}, "JMP ($FFFF)", "\x6c\xff\xff"},
}

// P5.1, P5.2
func TestExamples(t *testing.T) {
	for _, c := range examples {
		if s, e := asm.Print(c.l); s != c.s || e != api.OK {
			t.Errorf("Print(%v): %q, %v, not %q", c.l, s, e, c.s)
		}
		if l, e := asm.Parse(c.s); l != c.l || e != api.OK {
			t.Errorf("Parse(%q): %v, %v, not %v", c.s, l, e, c.l)
		}
		if b, e := asm.Bytes(c.l, 512); string(b) != c.b || e != api.OK {
			t.Errorf("Bytes(%v): % x, %v, not % x", c.l, b, e, c.b)
		}
		if l, n, e := asm.Read([]byte(c.b), 512); l != c.l || n != len(c.b) || e != api.OK {
			t.Errorf("Read(% x): %v, %d, %v, not %v", c.b, l, n, e, c.l)
		}
	}
}

// P5.1
func TestPrintOfAllOpcodes(t *testing.T) {
	for b, x := range opcode.All() {
		for _, n := range numbers(x.Mode) {
			want := x.Name + behind(x.Mode, n)
			if s, e := asm.Print(asm.Line{Op: b, N: n}); s != want || e != api.OK {
				t.Errorf("Print(%#x, %#x): %q, %v, not %q", b, n, s, e, want)
			}
		}
		for _, n := range noNumbers(x.Mode) {
			if s, e := asm.Print(asm.Line{Op: b, N: n}); s != "" || e != api.ErrRange {
				t.Errorf("Print(%#x, %d): %q, %v", b, n, s, e)
			}
		}
	}
}

// P5.1
func TestPrintOfNoOpcode(t *testing.T) {
	for _, b := range noOpcodes() {
		for _, n := range []int{0, 1, 255, 65535, -1, 65536, math.MaxInt, math.MinInt} {
			if s, e := asm.Print(asm.Line{Op: b, N: n}); s != "" || e != api.ErrOpcode {
				t.Errorf("Print(%#x, %d): %q, %v", b, n, s, e)
			}
		}
	}
}

// P5.1
func TestParseOfAllOpcodes(t *testing.T) {
	for b, x := range opcode.All() {
		for _, n := range numbers(x.Mode) {
			want, great := asm.Line{Op: b, N: n}, behind(x.Mode, n)
			// Small letters may be digits alone: those of A, X and Y are brought back.
			small := strings.NewReplacer("x", "X", "y", "Y", " a", " A").Replace(strings.ToLower(great))
			for _, s := range []string{x.Name + great, x.Name + small} {
				if l, e := asm.Parse(s); l != want || e != api.OK {
					t.Errorf("Parse(%q): %v, %v, not %v", s, l, e, want)
				}
			}
		}
	}
}

// P5.1
func TestParseOfDigits(t *testing.T) {
	for _, c := range []struct {
		s string
		n int
	}{
		{"LDA #$aF", 0xaf}, {"LDA #$Fa", 0xfa}, {"LDA $abCD", 0xabcd}, {"LDA $AbcD,X", 0xabcd}, {"JMP ($fFfC)", 0xfffc}, {"BNE $01fe", 0x1fe},
		{"LDA ($eE,X)", 0xee}, {"LDA ($eE),Y", 0xee}, {"LDX $dA,Y", 0xda}, {"LDA #$0b", 11},
	} {
		if l, e := asm.Parse(c.s); l.N != c.n || e != api.OK {
			t.Errorf("Parse(%q): %v, %v, not %#x", c.s, l, e, c.n)
		}
	}
	const digits = "0123456789ABCDEFabcdef"
	for i := range 256 {
		for k := range 256 {
			s := "LDA #$" + string([]byte{byte(i), byte(k)})
			is := strings.IndexByte(digits, byte(i)) >= 0 && strings.IndexByte(digits, byte(k)) >= 0
			l, e := asm.Parse(s)
			if is && e != api.OK || !is && (l != asm.Line{} || e != api.ErrForm) {
				t.Errorf("Parse(%q): %v, %v", s, l, e)
			}
		}
	}
}

// P5.1
func TestParseOfWrongForms(t *testing.T) {
	for _, s := range []string{
		"", " ", "\n", "A", "LD", "L", "lda #$10", "Lda #$10", "LDa #$10", "L1A #$10", "LD@ #$10", "LD[ #$10", "LDÀ #$10", "ÀÀ", "123", "   ", "LD\x00",
		" LDA #$10", "LDA #$10 ", "LDA  #$10", "LDA\t#$10", "LDA#$10", "LDA # $10", "LDA #$ 10", "LDA #$1", "LDA #$100", "LDA #$1000", "LDA #10", "LDA #$", "LDA #", "LDA ",
		"LDA #$g0", "LDA #$0G", "LDA #$+1", "LDA #$-1", "LDA #$_1", "LDA #$1_", "LDA #$0x", "LDA #$0x10", "LDA #$\x00\x00", "LDA #$１", "LDA #$é",
		"LDA $", "LDA $1", "LDA $123", "LDA $12345", "LDA $+123", "LDA $1_23", "LDA $0x12", "LDA $12 34", "LDA 12", "LDA $10\n", "LDA $10\r", "\nLDA $10", "LDA $10\x00",
		"LDA $10,x", "LDA $10,y", "LDA $10,", "LDA $10, X", "LDA $10 ,X", "LDA $10,X ", "LDA $10,Z", "LDA $10,A", "LDA $10X", "LDA $123,X", "LDA $12345,Y", "LDA $10,X,Y", "LDA $10,XY",
		"LDA ($10)", "LDA ($10,Y)", "LDA ($10),X", "LDA ($10,X", "LDA $10,X)", "LDA ($10,x)", "LDA ($10),y", "LDA ($10)Y", "LDA ($10 ),Y", "LDA ( $10),Y", "LDA ($1000,X)", "LDA ($1000),Y", "LDA ($1,X)",
		"JMP ($10)", "JMP ($10000)", "JMP ($1000", "JMP $1000)", "JMP ()", "JMP ($)", "JMP (1000)", "JMP ($1000),", "JMP[$1000]",
		"ASL a", "ASL  A", "ASLA", "ASL AA", "ASL A ", "ASL B", "ASL X", "INX ", "INX\n", "INXX", "BRK\x00", "BNE 01FE", "BNE +2", "BNE $1FE", "BNE #$01FE",
		// A wrong form is told ahead of a wrong name, and of a wrong kind.
		"XYZ $1", "XYZ ", "XYZ #10", "XYZQ", "STA #$1", "INX a", "JMP ($12", "xyz $10",
		strings.Repeat("LDA $10", 10000), "LDA #$" + strings.Repeat("0", 100000),
	} {
		if l, e := asm.Parse(s); l != (asm.Line{}) || e != api.ErrForm {
			t.Errorf("Parse(%.40q): %v, %v", s, l, e)
		}
	}
}

// P5.1
func TestParseOfAllNamesInAllKinds(t *testing.T) {
	has := map[string]byte{} // by what a line of 0 is written as
	names := map[string]bool{}
	for b, x := range opcode.All() {
		has[x.Name+behind(x.Mode, 0)] = b
		names[x.Name] = true
	}
	for i := range 26 * 26 * 26 {
		name := string([]byte{'A' + byte(i/676), 'A' + byte(i/26%26), 'A' + byte(i%26)})
		for mode := range kinds {
			s := name + behind(mode, 0)
			b, is := has[s]
			want := api.OK
			if !names[name] {
				want = api.ErrName
			} else if !is {
				want = api.ErrKind
			}
			if l, e := asm.Parse(s); l != (asm.Line{Op: b}) || e != want {
				t.Errorf("Parse(%q): %v, %v, not %#x, %v", s, l, e, b, want)
			}
		}
	}
}

// P5.1
func TestParseOfTextsWithAByteTurned(t *testing.T) {
	const two = `[0-9A-Fa-f]{2}`
	form := regexp.MustCompile(`^[A-Z]{3}(| A| #\$nn| \$nn(nn)?(,X|,Y)?| \(\$nn,X\)| \(\$nn\),Y| \(\$nnnn\))$`)
	form = regexp.MustCompile(strings.ReplaceAll(form.String(), "nn", two))
	for _, c := range examples {
		for i := range len(c.s) {
			for b := range 256 {
				turned := c.s[:i] + string([]byte{byte(b)}) + c.s[i+1:]
				short, long := c.s[:i]+c.s[i+1:], c.s[:i]+string([]byte{byte(b)})+c.s[i:]
				for _, s := range []string{turned, short, long} {
					l, e := asm.Parse(s)
					if form.MatchString(s) == (e == api.ErrForm) || e != api.OK && l != (asm.Line{}) {
						t.Errorf("Parse(%q): %v, %v", s, l, e)
					}
				}
			}
		}
	}
}

// P5.2
func TestBytesOfAllOpcodes(t *testing.T) {
	for b, x := range opcode.All() {
		for _, at := range []int{0, 1, 2, 127, 128, 130, 512, 0x8000, 65280, 65407, 65408, 65532, 65533, 65534, 65535} {
			for _, n := range append(numbers(x.Mode), min(at, highest(x.Mode))) {
				l := asm.Line{Op: b, N: n}
				want, ok := wantBytes(l, x.Mode, at)
				got, e := asm.Bytes(l, at)
				if ok && (!bytes.Equal(got, want) || e != api.OK) {
					t.Errorf("Bytes(%v, %d): % x, %v, not % x", l, at, got, e, want)
				}
				if !ok && (len(got) != 0 || e != api.ErrRange) {
					t.Errorf("Bytes(%v, %d): % x, %v", l, at, got, e)
				}
			}
		}
	}
}

// P5.2
func TestBytesOfNoAddress(t *testing.T) {
	for b, x := range opcode.All() {
		for _, at := range noPlaces {
			for _, n := range numbers(x.Mode) {
				if got, e := asm.Bytes(asm.Line{Op: b, N: n}, at); len(got) != 0 || e != api.ErrRange {
					t.Errorf("Bytes(%#x, %d, %d): % x, %v", b, n, at, got, e)
				}
			}
		}
	}
}

// P5.2
func TestBytesOfWhatCannotBePrinted(t *testing.T) {
	for _, at := range append([]int{0, 512, 65535}, noPlaces...) {
		for _, b := range noOpcodes() {
			for _, n := range []int{0, 255, -1, 65536, math.MaxInt} {
				if got, e := asm.Bytes(asm.Line{Op: b, N: n}, at); len(got) != 0 || e != api.ErrOpcode {
					t.Errorf("Bytes(%#x, %d, %d): % x, %v", b, n, at, got, e)
				}
			}
		}
		for b, x := range opcode.All() {
			for _, n := range noNumbers(x.Mode) {
				if got, e := asm.Bytes(asm.Line{Op: b, N: n}, at); len(got) != 0 || e != api.ErrRange {
					t.Errorf("Bytes(%#x, %d, %d): % x, %v", b, n, at, got, e)
				}
			}
		}
	}
}

// P5.2
func TestBytesOfAllBranches(t *testing.T) {
	for _, at := range []int{0, 100, 126, 127, 512, 65405, 65406, 65407, 65533, 65534, 65535} {
		for n := range 65536 {
			far := n - at - 2
			got, e := asm.Bytes(asm.Line{Op: 0xd0, N: n}, at)
			if at < 65535 && far >= -128 && far <= 127 {
				if string(got) != string([]byte{0xd0, byte(far & 255)}) || e != api.OK {
					t.Errorf("from %d to %d: % x, %v", at, n, got, e)
				}
			} else if len(got) != 0 || e != api.ErrRange {
				t.Errorf("from %d to %d: % x, %v", at, n, got, e)
			}
		}
	}
}

// P5.2, R2
func TestBytesAreTheCallers(t *testing.T) {
	l := asm.Line{Op: 0xad, N: 0x1234}
	first, _ := asm.Bytes(l, 0)
	clear(first[:cap(first)])
	if second, e := asm.Bytes(l, 0); string(second) != "\xad\x34\x12" || e != api.OK {
		t.Errorf("% x, %v", second, e)
	}
}

// P5.2
func TestReadOfAllOpcodes(t *testing.T) {
	for op, x := range opcode.All() {
		for _, at := range []int{0, 1, 126, 127, 128, 512, 0x8000, 65405, 65406, 65407, 65532, 65533, 65534, 65535} {
			for k := range 256 {
				b := []byte{op, byte(k), 0xc3, 0x02, 0xff}
				want, length, ok := asm.Line{Op: op}, 2, true
				switch x.Mode {
				case opcode.Imp, opcode.Acc:
					length = 1
				case opcode.Abs, opcode.AbsX, opcode.AbsY, opcode.Ind:
					want.N, length = k+0xc300, 3
				case opcode.Rel:
					want.N = at + 2 + k
					if k >= 128 {
						want.N -= 256
					}
					ok = want.N >= 0 && want.N <= 65535
				default:
					want.N = k
				}
				if at+length > 65536 || !ok {
					want, length, ok = asm.Line{}, 0, false
				}
				l, n, e := asm.Read(b, at)
				if l != want || n != length || ok != (e == api.OK) || !ok && e != api.ErrRange {
					t.Errorf("Read(% x, %d): %v, %d, %v, not %v, %d", b, at, l, n, e, want, length)
				}
			}
		}
	}
}

// P5.2
func TestReadOfWrongBytes(t *testing.T) {
	for _, c := range []struct {
		b  string
		at int
		e  api.Errno
	}{
		{"", 0, api.ErrForm}, {"", 65535, api.ErrForm}, {"", -1, api.ErrRange}, {"", 65536, api.ErrRange},
		{"\x02", 0, api.ErrOpcode}, {"\x02", 65535, api.ErrOpcode}, {"\x02", -1, api.ErrRange}, {"\x02", 65536, api.ErrRange}, {"\xff\xea", 7, api.ErrOpcode},
		{"\xa9", 0, api.ErrForm}, {"\xad", 0, api.ErrForm}, {"\xad\x01", 0, api.ErrForm}, {"\xd0", 0, api.ErrForm}, {"\x6c\x00", 9, api.ErrForm},
		// Too few are told ahead of those beyond the last address.
		{"\xa9", 65535, api.ErrForm}, {"\xad\x01", 65534, api.ErrForm}, {"\xd0", 65535, api.ErrForm},
		{"\xa9\x01", 65535, api.ErrRange}, {"\xad\x01\x02", 65534, api.ErrRange}, {"\xad\x01\x02", 65535, api.ErrRange}, {"\xd0\x80", 65535, api.ErrRange},
		{"\xd0\xfd", 0, api.ErrRange}, {"\xd0\x80", 0, api.ErrRange}, {"\xd0\x80", 125, api.ErrRange}, {"\xd0\x00", 65534, api.ErrRange}, {"\xd0\x7f", 65407, api.ErrRange},
		{"\xea", -1, api.ErrRange}, {"\xea", 65536, api.ErrRange}, {"\xa9\x00", math.MaxInt, api.ErrRange}, {"\xd0\x00", math.MinInt, api.ErrRange},
	} {
		if l, n, e := asm.Read([]byte(c.b), c.at); l != (asm.Line{}) || n != 0 || e != c.e {
			t.Errorf("Read(% x, %d): %v, %d, %v, not %v", c.b, c.at, l, n, e, c.e)
		}
	}
	if l, n, e := asm.Read(nil, 0); l != (asm.Line{}) || n != 0 || e != api.ErrForm {
		t.Error(l, n, e)
	}
	for _, b := range noOpcodes() {
		if l, n, e := asm.Read([]byte{b, 0, 0}, 0); l != (asm.Line{}) || n != 0 || e != api.ErrOpcode {
			t.Errorf("Read(%#x): %v, %d, %v", b, l, n, e)
		}
	}
	for _, at := range noPlaces {
		for b := range 256 {
			if l, n, e := asm.Read([]byte{byte(b), 0, 0}, at); l != (asm.Line{}) || n != 0 || e != api.ErrRange {
				t.Errorf("Read(%#x, %d): %v, %d, %v", b, at, l, n, e)
			}
		}
	}
}

// P5.2
func TestReadAtTheEdges(t *testing.T) {
	for _, c := range []struct {
		b    string
		at   int
		want asm.Line
	}{
		{"\xea", 65535, asm.Line{Op: 0xea}},
		{"\xa9\x01", 65534, asm.Line{Op: 0xa9, N: 1}},
		{"\xad\x01\x02", 65533, asm.Line{Op: 0xad, N: 0x201}},
		{"\xd0\xfe", 0, asm.Line{Op: 0xd0}},
		{"\xd0\x80", 126, asm.Line{Op: 0xd0}},
		{"\xd0\xff", 65534, asm.Line{Op: 0xd0, N: 65535}},
		{"\xd0\x7f", 65406, asm.Line{Op: 0xd0, N: 65535}},
		{"\xd0\x80", 65534, asm.Line{Op: 0xd0, N: 65408}},
	} {
		if l, n, e := asm.Read([]byte(c.b), c.at); l != c.want || n != len(c.b) || e != api.OK {
			t.Errorf("Read(% x, %d): %v, %d, %v, not %v", c.b, c.at, l, n, e, c.want)
		}
	}
}

// P5.2, P5.3, R2
func TestBytesThatAreHandedInStay(t *testing.T) {
	whole := []byte("\xa2\x03\xca\xd0\xfd\x8d\x06\x80\xea\xea")
	b := slices.Clone(whole)
	asm.Read(b[:2], 0)
	asm.List(b[:8], 512)
	if !bytes.Equal(b, whole) {
		t.Errorf("% x", b)
	}
	// What stands behind the length is not read.
	if l, n, e := asm.Read(b[5:7], 0); l != (asm.Line{}) || n != 0 || e != api.ErrForm {
		t.Error(l, n, e)
	}
}

// P5.3
func TestAssemble(t *testing.T) {
	for _, c := range []struct {
		s    string
		at   int
		want string
	}{
		{"", 0, ""}, {"\n", 0, ""}, {"\n\n\n", 65535, ""}, {"NOP", 0, "\xea"}, {"NOP\n", 0, "\xea"}, {"\nNOP", 0, "\xea"}, {"NOP\n\n\nINX", 0, "\xea\xe8"},
		{"LDX #$03\nDEX\nBNE $0202\nSTA $8006\n", 512, "\xa2\x03\xca\xd0\xfd\x8d\x06\x80"},
		{"LDX #$03\n\nDEX\nBNE $0202\n\nSTA $8006", 512, "\xa2\x03\xca\xd0\xfd\x8d\x06\x80"},
		{"JMP $c000", 49152, "\x4c\x00\xc0"},
		{"BNE $0000", 0, "\xd0\xfe"}, {"NOP\nBNE $0000", 0, "\xea\xd0\xfd"}, {"NOP\nNOP\nBNE $0000", 0, "\xea\xea\xd0\xfc"},
		{"NOP", 65535, "\xea"}, {"NOP\n\n", 65535, "\xea"}, {"LDA $0102", 65533, "\xad\x02\x01"}, {"NOP\nLDA #$01", 65533, "\xea\xa9\x01"}, {"BNE $FFFF", 65534, "\xd0\xff"},
	} {
		if b, n, e := asm.Assemble(c.s, c.at); string(b) != c.want || n != 0 || e != api.OK {
			t.Errorf("Assemble(%q, %d): % x, %d, %v, not % x", c.s, c.at, b, n, e, c.want)
		}
	}
}

// P5.3
func TestAssembleOfWrongLines(t *testing.T) {
	for _, c := range []struct {
		s  string
		at int
		n  int
		e  api.Errno
	}{
		{"FOO", 0, 1, api.ErrName}, {"\nINX\nFOO\n", 0, 3, api.ErrName}, {"NOP\nFOO\nlda\nSTA #$00", 0, 2, api.ErrName}, {"NOP\nSTA #$00\nFOO", 0, 2, api.ErrKind},
		{"NOP\n\n\nlda", 0, 4, api.ErrForm}, {" ", 0, 1, api.ErrForm}, {"NOP\n \nNOP", 0, 2, api.ErrForm}, {"NOP\r\nNOP", 0, 1, api.ErrForm}, {"NOP;NOP", 0, 1, api.ErrForm}, {"\n\r", 0, 2, api.ErrForm},
		{"NOP\nNOP", 65535, 2, api.ErrRange}, {"NOP\n\nNOP\nFOO", 65535, 3, api.ErrRange}, {"LDA #$00", 65535, 1, api.ErrRange}, {"NOP\nLDA $0000", 65533, 2, api.ErrRange},
		{"NOP\nBNE $0082", 0, 2, api.OK}, {"NOP\nBNE $0083", 0, 2, api.ErrRange}, {"NOP\nBNE $0181", 512, 2, api.ErrRange}, {"BNE $FFFF", 0, 1, api.ErrRange},
		{"NOP", -1, 1, api.ErrRange}, {"\nNOP", -1, 2, api.ErrRange}, {"NOP", 65536, 1, api.ErrRange}, {"NOP", math.MaxInt, 1, api.ErrRange}, {"\nNOP", math.MinInt, 2, api.ErrRange},
		// What is wrong with the text is told ahead of the address.
		{"FOO", -1, 1, api.ErrName}, {"lda", 65536, 1, api.ErrForm}, {"STA #$00", -1, 1, api.ErrKind},
	} {
		if c.e == api.OK {
			c.n = 0
		}
		b, n, e := asm.Assemble(c.s, c.at)
		if n != c.n || e != c.e || e != api.OK && len(b) != 0 {
			t.Errorf("Assemble(%q, %d): % x, %d, %v, not %d, %v", c.s, c.at, b, n, e, c.n, c.e)
		}
	}
	// Where no line has bytes, no address is asked for.
	for _, at := range noPlaces {
		for _, s := range []string{"", "\n", "\n\n"} {
			if b, n, e := asm.Assemble(s, at); len(b) != 0 || n != 0 || e != api.OK {
				t.Errorf("Assemble(%q, %d): % x, %d, %v", s, at, b, n, e)
			}
		}
	}
}

// P5.3
func TestAssembleOfLongTexts(t *testing.T) {
	full := strings.Repeat("NOP\n", 16384)
	if b, n, e := asm.Assemble(full, 49152); string(b) != strings.Repeat("\xea", 16384) || n != 0 || e != api.OK {
		t.Error(len(b), n, e)
	}
	if b, n, e := asm.Assemble(full, 49153); len(b) != 0 || n != 16384 || e != api.ErrRange {
		t.Error(len(b), n, e)
	}
	if b, n, e := asm.Assemble(strings.Repeat("\n", 65536), 0); len(b) != 0 || n != 0 || e != api.OK {
		t.Error(len(b), n, e)
	}
	if b, n, e := asm.Assemble(strings.Repeat("\n", 65533)+"FOO", 0); len(b) != 0 || n != 65534 || e != api.ErrName {
		t.Error(len(b), n, e)
	}
	for _, s := range []string{full + "\n", full + "x", strings.Repeat("\n", 65537), "FOO\n" + full, strings.Repeat("x", 1<<20)} {
		for _, at := range []int{0, -1, 65536} {
			if b, n, e := asm.Assemble(s, at); len(b) != 0 || n != 0 || e != api.ErrLong {
				t.Error(len(s), len(b), n, e)
			}
		}
	}
}

// P5.3
func TestList(t *testing.T) {
	for _, c := range []struct {
		b    string
		at   int
		want string
	}{
		{"", 0, ""}, {"", 65535, ""}, {"\xea", 0, "NOP\n"}, {"\xea", 65535, "NOP\n"}, {"\xea\x0a\xe8", 65533, "NOP\nASL A\nINX\n"},
		{"\xa2\x03\xca\xd0\xfd\x8d\x06\x80", 512, "LDX #$03\nDEX\nBNE $0202\nSTA $8006\n"},
		{"\xa2\x03\xca\xd0\xfd\x8d\x06\x80", 768, "LDX #$03\nDEX\nBNE $0302\nSTA $8006\n"},
		{"\xd0\xfe\xd0\xfe", 0, "BNE $0000\nBNE $0002\n"}, {"\xea\xd0\xff", 65533, "NOP\nBNE $FFFF\n"},
	} {
		if s, n, e := asm.List([]byte(c.b), c.at); s != c.want || n != 0 || e != api.OK {
			t.Errorf("List(% x, %d): %q, %d, %v, not %q", c.b, c.at, s, n, e, c.want)
		}
	}
}

// P5.3
func TestListOfWrongBytes(t *testing.T) {
	for _, c := range []struct {
		b  string
		at int
		n  int
		e  api.Errno
	}{
		{"\x02", 0, 0, api.ErrOpcode}, {"\xea\xea\x02", 0, 2, api.ErrOpcode}, {"\xad\x02\x02\x02\xff", 0, 3, api.ErrOpcode}, {"\xea\x02\xad", 0, 1, api.ErrOpcode},
		{"\xea\xa9", 0, 1, api.ErrForm}, {"\xea\xad\x01", 0, 1, api.ErrForm}, {"\xa9\x00\xd0", 0, 2, api.ErrForm},
		{"\xea\xea", 65535, 1, api.ErrRange}, {"\xea\xa9\x00", 65534, 1, api.ErrRange}, {"\xa9\x00\xad\x00\x00", 65532, 2, api.ErrRange},
		{"\xea\xd0\xfc", 0, 1, api.ErrRange}, {"\xea\xd0\x00", 65533, 1, api.ErrRange},
		{"\xea", -1, 0, api.ErrRange}, {"\xea", 65536, 0, api.ErrRange}, {"\xea", math.MaxInt, 0, api.ErrRange}, {"\x02", math.MinInt, 0, api.ErrRange},
		{"\xea\x02", 65535, 1, api.ErrRange},
	} {
		if s, n, e := asm.List([]byte(c.b), c.at); s != "" || n != c.n || e != c.e {
			t.Errorf("List(% x, %d): %q, %d, %v, not %d, %v", c.b, c.at, s, n, e, c.n, c.e)
		}
	}
	// Where there are no lines, no address is asked for.
	for _, at := range noPlaces {
		if s, n, e := asm.List(nil, at); s != "" || n != 0 || e != api.OK {
			t.Errorf("List(nothing, %d): %q, %d, %v", at, s, n, e)
		}
	}
}

// P5.3
func TestListOfManyBytes(t *testing.T) {
	full := bytes.Repeat([]byte{0xea}, 65536)
	if s, n, e := asm.List(full, 0); s != strings.Repeat("NOP\n", 65536) || n != 0 || e != api.OK {
		t.Error(len(s), n, e)
	}
	if s, n, e := asm.List(full, 1); s != "" || n != 65535 || e != api.ErrRange {
		t.Error(len(s), n, e)
	}
	for _, b := range [][]byte{append(full, 0xea), append([]byte{2}, full...), make([]byte, 1<<20)} {
		for _, at := range []int{0, -1, 65536} {
			if s, n, e := asm.List(b, at); s != "" || n != 0 || e != api.ErrLong {
				t.Error(len(b), len(s), n, e)
			}
		}
	}
}

// step is how far the numbers of a mode that are tried are from each other; branches are short, so all of theirs are tried.
func step(mode int) int {
	if highest(mode) > 255 && mode != opcode.Rel {
		return 251 // an odd number: all low bytes come
	}
	return 1
}

// P5.4
func TestParseOfPrintIsTheLine(t *testing.T) {
	for b, x := range opcode.All() {
		for n := 0; n <= highest(x.Mode); n += step(x.Mode) {
			l := asm.Line{Op: b, N: n}
			s, e := asm.Print(l)
			if e != api.OK {
				t.Fatal(l, e)
			}
			if got, e := asm.Parse(s); got != l || e != api.OK {
				t.Errorf("Parse(%q): %v, %v, not %v", s, got, e, l)
			}
		}
	}
}

// P5.4
func TestReadOfBytesIsTheLine(t *testing.T) {
	for op, x := range opcode.All() {
		for at := 0; at < 65536; at += 16383 { // 65532 is the last one
			for n := 0; n <= highest(x.Mode); n += step(x.Mode) {
				l := asm.Line{Op: op, N: n}
				b, e := asm.Bytes(l, at)
				if e != api.OK {
					continue
				}
				if got, length, e := asm.Read(append(b, 0xff, 0x02), at); got != l || length != len(b) || e != api.OK {
					t.Fatalf("Read(% x, %d): %v, %d, %v, not %v", b, at, got, length, e, l)
				}
			}
		}
	}
}

// P5.4
func TestAssembleOfListIsTheBytes(t *testing.T) {
	for _, at := range []int{0, 512, 49152, 60000} {
		var b []byte
		for op, x := range opcode.All() {
			for _, n := range numbers(x.Mode) {
				if x.Mode == opcode.Rel {
					n = at + len(b) + 2 + int(int8(n))
				}
				line, e := asm.Bytes(asm.Line{Op: op, N: n}, at+len(b))
				if e == api.OK {
					b = append(b, line...)
				}
			}
		}
		s, _, e := asm.List(b, at)
		if e != api.OK {
			t.Fatal(at, e)
		}
		if got, n, e := asm.Assemble(s, at); !bytes.Equal(got, b) || n != 0 || e != api.OK {
			t.Error(at, len(got), len(b), n, e)
		}
	}
}

// P5.4
func TestAssembleOfListOfShortBytes(t *testing.T) {
	for _, at := range []int{0, 1, 126, 65533, 65534, 65535} {
		for i := range 1 << 16 {
			b := []byte{byte(i >> 8), byte(i), 0xea}
			s, _, e := asm.List(b, at)
			if e != api.OK {
				continue
			}
			if got, n, e := asm.Assemble(s, at); !bytes.Equal(got, b) || n != 0 || e != api.OK {
				t.Fatalf("Assemble(%q, %d): % x, %d, %v, not % x", s, at, got, n, e, b)
			}
		}
	}
}
