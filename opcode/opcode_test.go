package opcode_test

import (
	"math"
	"slices"
	"strconv"
	"strings"
	"testing"

	"cochineal/api"
	"cochineal/opcode"
)

// table is the chapter's one: each name's modes, and the opcodes that it has there.
const table = `ADC Imm 69, Zp 65, ZpX 75, Abs 6d, AbsX 7d, AbsY 79, IndX 61, IndY 71
AND Imm 29, Zp 25, ZpX 35, Abs 2d, AbsX 3d, AbsY 39, IndX 21, IndY 31
ASL Acc 0a, Zp 06, ZpX 16, Abs 0e, AbsX 1e
BCC Rel 90
BCS Rel b0
BEQ Rel f0
BIT Zp 24, Abs 2c
BMI Rel 30
BNE Rel d0
BPL Rel 10
BRK Imp 00
BVC Rel 50
BVS Rel 70
CLC Imp 18
CLD Imp d8
CLI Imp 58
CLV Imp b8
CMP Imm c9, Zp c5, ZpX d5, Abs cd, AbsX dd, AbsY d9, IndX c1, IndY d1
CPX Imm e0, Zp e4, Abs ec
CPY Imm c0, Zp c4, Abs cc
DEC Zp c6, ZpX d6, Abs ce, AbsX de
DEX Imp ca
DEY Imp 88
EOR Imm 49, Zp 45, ZpX 55, Abs 4d, AbsX 5d, AbsY 59, IndX 41, IndY 51
INC Zp e6, ZpX f6, Abs ee, AbsX fe
INX Imp e8
INY Imp c8
JMP Abs 4c, Ind 6c
JSR Abs 20
LDA Imm a9, Zp a5, ZpX b5, Abs ad, AbsX bd, AbsY b9, IndX a1, IndY b1
LDX Imm a2, Zp a6, ZpY b6, Abs ae, AbsY be
LDY Imm a0, Zp a4, ZpX b4, Abs ac, AbsX bc
LSR Acc 4a, Zp 46, ZpX 56, Abs 4e, AbsX 5e
NOP Imp ea
ORA Imm 09, Zp 05, ZpX 15, Abs 0d, AbsX 1d, AbsY 19, IndX 01, IndY 11
PHA Imp 48
PHP Imp 08
PLA Imp 68
PLP Imp 28
ROL Acc 2a, Zp 26, ZpX 36, Abs 2e, AbsX 3e
ROR Acc 6a, Zp 66, ZpX 76, Abs 6e, AbsX 7e
RTI Imp 40
RTS Imp 60
SBC Imm e9, Zp e5, ZpX f5, Abs ed, AbsX fd, AbsY f9, IndX e1, IndY f1
SEC Imp 38
SED Imp f8
SEI Imp 78
STA Zp 85, ZpX 95, Abs 8d, AbsX 9d, AbsY 99, IndX 81, IndY 91
STX Zp 86, ZpY 96, Abs 8e
STY Zp 84, ZpX 94, Abs 8c
TAX Imp aa
TAY Imp a8
TSX Imp ba
TXA Imp 8a
TXS Imp 9a
TYA Imp 98`

// modes are the modes' names, by their numbers.
var modes = []string{"Imp", "Acc", "Imm", "Zp", "ZpX", "ZpY", "Abs", "AbsX", "AbsY", "IndX", "IndY", "Ind", "Rel"}

// noModes are numbers that no mode has.
var noModes = []int{-1, 13, 14, 256, 257, -256, 1 << 32, math.MaxInt, math.MinInt}

// row is what the chapter tells of an opcode.
type row struct {
	b    byte
	op   opcode.Op
	mode string
}

// wantKind is an opcode's kind by the chapter's words.
func wantKind(name, mode string) int {
	is := func(names string) bool { return slices.Contains(strings.Split(names, ", "), name) }
	switch {
	case is("ADC, AND, BIT, CMP, CPX, CPY, EOR, LDA, LDX, LDY, ORA, SBC"):
		return opcode.Reads
	case is("STA, STX, STY"):
		return opcode.Writes
	case is("ASL, DEC, INC, LSR, ROL, ROR") && mode != "Acc":
		return opcode.Turns
	case is("BRK, JMP, JSR, PHA, PHP, PLA, PLP, RTI, RTS") || mode == "Rel":
		return opcode.Jumps
	}
	return opcode.Alone
}

// rows are the table's opcodes, by rising bytes.
func rows(t *testing.T) []row {
	t.Helper()
	var l []row
	for _, line := range strings.Split(table, "\n") {
		for _, cell := range strings.Split(line[4:], ", ") {
			mode, digits, _ := strings.Cut(cell, " ")
			b, err := strconv.ParseUint(digits, 16, 8)
			if err != nil {
				t.Fatal(err)
			}
			op := opcode.Op{Name: line[:3], Mode: slices.Index(modes, mode), Kind: wantKind(line[:3], mode)}
			l = append(l, row{byte(b), op, mode})
		}
	}
	slices.SortFunc(l, func(a, b row) int { return int(a.b) - int(b.b) })
	return l
}

// byBytes are the table's opcodes by their bytes.
func byBytes(t *testing.T) map[byte]row {
	t.Helper()
	m := map[byte]row{}
	for _, r := range rows(t) {
		m[r.b] = r
	}
	return m
}

// names are the table's names.
func names(t *testing.T) []string {
	t.Helper()
	var l []string
	for _, line := range strings.Split(table, "\n") {
		l = append(l, line[:3])
	}
	return l
}

// Words: modes and kinds from 0 on.
func TestNumbersOfModesAndKinds(t *testing.T) {
	got := []int{
		opcode.Imp, opcode.Acc, opcode.Imm, opcode.Zp, opcode.ZpX, opcode.ZpY, opcode.Abs,
		opcode.AbsX, opcode.AbsY, opcode.IndX, opcode.IndY, opcode.Ind, opcode.Rel,
	}
	for want, mode := range got {
		if mode != want {
			t.Errorf("%s: %d, not %d", modes[want], mode, want)
		}
	}
	if opcode.Alone != 0 || opcode.Reads != 1 || opcode.Writes != 2 || opcode.Turns != 3 || opcode.Jumps != 4 {
		t.Error(opcode.Alone, opcode.Reads, opcode.Writes, opcode.Turns, opcode.Jumps)
	}
}

// P4.1
func TestOfOfExamples(t *testing.T) {
	for _, c := range []struct {
		b    byte
		want opcode.Op
	}{
		{0xa9, opcode.Op{Name: "LDA", Mode: opcode.Imm, Kind: opcode.Reads}},
		{0x00, opcode.Op{Name: "BRK", Mode: opcode.Imp, Kind: opcode.Jumps}},
		{0xfe, opcode.Op{Name: "INC", Mode: opcode.AbsX, Kind: opcode.Turns}},
		{0x0a, opcode.Op{Name: "ASL", Mode: opcode.Acc, Kind: opcode.Alone}},
		{0x06, opcode.Op{Name: "ASL", Mode: opcode.Zp, Kind: opcode.Turns}},
		{0x24, opcode.Op{Name: "BIT", Mode: opcode.Zp, Kind: opcode.Reads}},
		{0x96, opcode.Op{Name: "STX", Mode: opcode.ZpY, Kind: opcode.Writes}},
		{0xb6, opcode.Op{Name: "LDX", Mode: opcode.ZpY, Kind: opcode.Reads}},
		{0xbe, opcode.Op{Name: "LDX", Mode: opcode.AbsY, Kind: opcode.Reads}},
		{0x4c, opcode.Op{Name: "JMP", Mode: opcode.Abs, Kind: opcode.Jumps}},
		{0x6c, opcode.Op{Name: "JMP", Mode: opcode.Ind, Kind: opcode.Jumps}},
		{0x20, opcode.Op{Name: "JSR", Mode: opcode.Abs, Kind: opcode.Jumps}},
		{0x90, opcode.Op{Name: "BCC", Mode: opcode.Rel, Kind: opcode.Jumps}},
		{0x48, opcode.Op{Name: "PHA", Mode: opcode.Imp, Kind: opcode.Jumps}},
		{0x9a, opcode.Op{Name: "TXS", Mode: opcode.Imp, Kind: opcode.Alone}},
		{0xea, opcode.Op{Name: "NOP", Mode: opcode.Imp, Kind: opcode.Alone}},
	} {
		if op, e := opcode.Of(c.b); op != c.want || e != api.OK {
			t.Errorf("Of(%#x): %v, %v, not %v", c.b, op, e, c.want)
		}
	}
}

// P4.1
func TestOfOfAllBytes(t *testing.T) {
	want := byBytes(t)
	for i := range 256 {
		b, wrong := byte(i), api.OK
		if _, is := want[b]; !is {
			wrong = api.ErrOpcode
		}
		if op, e := opcode.Of(b); op != want[b].op || e != wrong {
			t.Errorf("Of(%#x): %v, %v, not %v, %v", b, op, e, want[b].op, wrong)
		}
	}
}

// P4.1
func TestByteOfAllNamesInAllModes(t *testing.T) {
	is := map[opcode.Op]byte{}
	for _, r := range rows(t) {
		is[opcode.Op{Name: r.op.Name, Mode: r.op.Mode}] = r.b
	}
	for _, name := range names(t) {
		for mode := range modes {
			want, has := is[opcode.Op{Name: name, Mode: mode}]
			wrong := api.OK
			if !has {
				wrong = api.ErrKind
			}
			if b, e := opcode.Byte(name, mode); b != want || e != wrong {
				t.Errorf("Byte(%q, %s): %#x, %v, not %#x, %v", name, modes[mode], b, e, want, wrong)
			}
		}
	}
}

// P4.1
func TestByteOfNoMode(t *testing.T) {
	for _, name := range names(t) {
		for _, mode := range noModes {
			if b, e := opcode.Byte(name, mode); b != 0 || e != api.ErrKind {
				t.Errorf("Byte(%q, %d): %#x, %v", name, mode, b, e)
			}
		}
	}
}

// P4.1
func TestByteOfNoName(t *testing.T) {
	wrong := []string{
		"", " ", "A", "AD", "LD", "DC", "lda", "Lda", "LDa", "lDA", "LDA ", " LDA", "LDAX", "XLDA", "LDALDA", "LDA\n", "LDA\x00",
		"\x00\x00\x00", "\x00LDA", "LD\x00", "\xff\xff\xff", "LD\xc1", "LDÁ", "ＬＤＡ", "BRK,", "LDA #", "LDA $10", "a9", "0", "OK",
		"LAX", "SAX", "BRA", "STZ", "PHX", "PLY", "DEA", "INA", "SLO", "JAM", "Imp", "Zp", strings.Repeat("LDA", 1000),
	}
	for _, name := range names(t) {
		wrong = append(wrong, strings.ToLower(name), name[:2], name[1:], name+" ", " "+name, name+name[2:])
	}
	for _, name := range wrong {
		for _, mode := range append([]int{0, 1, 2, 3, 4, 5, 6, 7, 8, 9, 10, 11, 12}, noModes...) {
			if b, e := opcode.Byte(name, mode); b != 0 || e != api.ErrName {
				t.Errorf("Byte(%q, %d): %#x, %v", name, mode, b, e)
			}
		}
	}
}

// P4.1
func TestByteOfAllThreeLetters(t *testing.T) {
	is := names(t)
	for i := range 26 * 26 * 26 {
		name := string([]byte{'A' + byte(i/676), 'A' + byte(i/26%26), 'A' + byte(i%26)})
		want := api.ErrName
		if slices.Contains(is, name) {
			want = api.ErrKind
		}
		if b, e := opcode.Byte(name, -1); b != 0 || e != want {
			t.Errorf("Byte(%q, -1): %#x, %v, not %v", name, b, e, want)
		}
	}
}

// P4.1
func TestAllByRisingBytes(t *testing.T) {
	want := rows(t)
	all := opcode.All()
	// An iterator that was gone through tells the same once more.
	for range 2 {
		at := 0
		for b, op := range all {
			if at >= len(want) || b != want[at].b || op != want[at].op {
				t.Fatalf("%d: %#x, %v", at, b, op)
			}
			at++
		}
		if at != len(want) {
			t.Fatal(at)
		}
	}
}

// P4.1
func TestAllThatIsLeft(t *testing.T) {
	want := rows(t)
	for stop := 1; stop <= len(want); stop++ {
		var got []row
		for b, op := range opcode.All() {
			got = append(got, row{b, op, modes[op.Mode]})
			if len(got) == stop {
				break
			}
		}
		if !slices.Equal(got, want[:stop]) {
			t.Fatalf("the first %d: %v", stop, got)
		}
	}
}

// P4.1
func TestAllWithinAll(t *testing.T) {
	all, outer, inner := opcode.All(), 0, 0
	for range all {
		outer++
		for range all {
			inner++
		}
	}
	if outer != 151 || inner != 151*151 {
		t.Error(outer, inner)
	}
}

// P4.2
func TestLength(t *testing.T) {
	for mode, want := range []int{1, 1, 2, 2, 2, 2, 3, 3, 3, 2, 2, 3, 2} {
		if n := opcode.Length(mode); n != want {
			t.Errorf("Length(%s): %d, not %d", modes[mode], n, want)
		}
	}
	for _, mode := range noModes {
		if n := opcode.Length(mode); n != 0 {
			t.Errorf("Length(%d): %d", mode, n)
		}
	}
}

// wantCycles is how many cycles an opcode takes at least by the chapter's words.
func wantCycles(r row) int {
	switch r.op.Kind {
	case opcode.Alone:
		return 2
	case opcode.Reads:
		return map[string]int{
			"Imm": 2, "Zp": 3, "ZpX": 4, "ZpY": 4, "Abs": 4, "AbsX": 4, "AbsY": 4, "IndX": 6, "IndY": 5,
		}[r.mode]
	case opcode.Writes:
		return map[string]int{
			"Zp": 3, "ZpX": 4, "ZpY": 4, "Abs": 4, "AbsX": 5, "AbsY": 5, "IndX": 6, "IndY": 6,
		}[r.mode]
	case opcode.Turns:
		return map[string]int{"Zp": 5, "ZpX": 6, "Abs": 6, "AbsX": 7}[r.mode]
	}
	if r.mode == "Rel" {
		return 2
	}
	if r.mode == "Ind" {
		return 5
	}
	return map[string]int{
		"JMP": 3, "PHA": 3, "PHP": 3, "PLA": 4, "PLP": 4, "JSR": 6, "RTI": 6, "RTS": 6, "BRK": 7,
	}[r.op.Name]
}

// P4.2
func TestCyclesOfAllBytes(t *testing.T) {
	is := byBytes(t)
	for i := range 256 {
		want := 0
		if r, has := is[byte(i)]; has {
			want = wantCycles(r)
			if want == 0 {
				t.Fatalf("the chapter tells none of %#x", i)
			}
		}
		if n := opcode.Cycles(byte(i)); n != want {
			t.Errorf("Cycles(%#x): %d, not %d", i, n, want)
		}
	}
}

// P4.2
func TestCyclesOfExamples(t *testing.T) {
	for b, want := range map[byte]int{
		0xea: 2, 0x0a: 2, 0xaa: 2, 0x9a: 2,
		0xa9: 2, 0xa5: 3, 0xb5: 4, 0xb6: 4, 0xad: 4, 0xbd: 4, 0xb9: 4, 0xa1: 6, 0xb1: 5,
		0x85: 3, 0x95: 4, 0x96: 4, 0x8d: 4, 0x9d: 5, 0x99: 5, 0x81: 6, 0x91: 6,
		0xe6: 5, 0xf6: 6, 0xee: 6, 0xfe: 7,
		0xd0: 2, 0x4c: 3, 0x6c: 5, 0x48: 3, 0x08: 3, 0x68: 4, 0x28: 4, 0x20: 6, 0x40: 6, 0x60: 6, 0x00: 7,
		0x02: 0, 0x80: 0, 0x1a: 0, 0x9c: 0, 0xff: 0,
	} {
		if n := opcode.Cycles(b); n != want {
			t.Errorf("Cycles(%#x): %d, not %d", b, n, want)
		}
	}
}

// P4.3
func TestThereAre151(t *testing.T) {
	told, counted := 0, 0
	for range opcode.All() {
		told++
	}
	for b := range 256 {
		if _, e := opcode.Of(byte(b)); e == api.OK {
			counted++
		}
	}
	if told != 151 || counted != 151 {
		t.Error(told, counted)
	}
}

// P4.3
func TestByteOfANameAndAModeIsTheOpcode(t *testing.T) {
	for b, op := range opcode.All() {
		if got, e := opcode.Byte(op.Name, op.Mode); got != b || e != api.OK {
			t.Errorf("Byte(%q, %d): %#x, %v, not %#x", op.Name, op.Mode, got, e, b)
		}
	}
	for i := range 256 {
		op, e := opcode.Of(byte(i))
		if e != api.OK {
			continue
		}
		if got, e := opcode.Byte(op.Name, op.Mode); got != byte(i) || e != api.OK {
			t.Errorf("Byte(%q, %d): %#x, %v, not %#x", op.Name, op.Mode, got, e, i)
		}
	}
}
