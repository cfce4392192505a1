package micro_test

import (
	"math"
	"slices"
	"strings"
	"testing"

	"cochineal/api"
	"cochineal/micro"
	"cochineal/opcode"
)

// table is the chapter's one: opcodes by their kind and modes, or their name (and mode), and their steps.
const table = `Reads Imm | Value
Reads Zp | Low Get
Reads ZpX, ZpY | Low Index Get
Reads Abs | Low High Get
Reads AbsX, AbsY | Low High Near Get
Reads IndX | Low Index PtrLow PtrHigh Get
Reads IndY | Low PtrLow PtrHigh Near Get
Writes Zp | Low Put
Writes ZpX, ZpY | Low Index Put
Writes Abs | Low High Put
Writes AbsX, AbsY | Low High Near Put
Writes IndX | Low Index PtrLow PtrHigh Put
Writes IndY | Low PtrLow PtrHigh Near Put
Turns Zp | Low Old Back New
Turns ZpX | Low Index Old Back New
Turns Abs | Low High Old Back New
Turns AbsX | Low High Near Old Back New
JMP Abs | Low Jump
JMP Ind | Low High FarLow FarHigh
JSR | Low Peek PushHigh PushLow Jump
RTS | Next Peek PullLow PullHigh Skip
RTI | Next Peek PullP PullLow PullHigh
PHA | Next PushA
PHP | Next PushP
PLA | Next Peek PullA
PLP | Next Peek PullP
BRK | Skip PushHigh PushLow PushP VecLow VecHigh
Rel | Offset Take Cross
Alone | Next`

// names are the steps' names, by their numbers.
var names = strings.Fields(`Next Low High Value Index PtrLow PtrHigh Near Get Old Back New Put Peek PushHigh PushLow PushP PushA
	PullLow PullHigh PullP PullA FarLow FarHigh Jump Skip Offset Take Cross VecLow VecHigh Drop`)

// modes and kinds are those of opcodes, by their numbers.
var (
	modes = strings.Fields("Imp Acc Imm Zp ZpX ZpY Abs AbsX AbsY IndX IndY Ind Rel")
	kinds = strings.Fields("Alone Reads Writes Turns Jumps")
)

// noSteps are numbers that no step has, and noKinds those that no sequence has.
var (
	noSteps = []int{-1, 32, 33, 255, 256, 256 + micro.Put, 256 + micro.Get, -micro.Put, -micro.Take, 1<<32 + micro.Put, 1<<32 + micro.Take, math.MaxInt, math.MinInt}
	noKinds = []int{-1, -2, 3, 4, 255, 256, 257, 258, -256, 1 << 32, 1<<32 + 1, 1<<32 + 2, math.MaxInt, math.MinInt}
)

// steps are those of a row of names.
func steps(t *testing.T, text string) []int {
	t.Helper()
	var l []int
	for _, name := range strings.Fields(text) {
		i := slices.Index(names, name)
		if i < 0 {
			t.Fatal(name)
		}
		l = append(l, i)
	}
	return l
}

// text is steps by their names.
func text(l []int) string {
	var words []string
	for _, s := range l {
		word := "?"
		if s >= 0 && s < len(names) {
			word = names[s]
		}
		words = append(words, word)
	}
	return strings.Join(words, " ")
}

// has tells whether a row's left side names an opcode.
func has(left string, op opcode.Op) bool {
	word, rest, _ := strings.Cut(left, " ")
	if word != op.Name && word != kinds[op.Kind] && word != modes[op.Mode] {
		return false
	}
	return rest == "" || slices.Contains(strings.Split(rest, ", "), modes[op.Mode])
}

// wanted is an opcode's steps by the chapter's table.
func wanted(t *testing.T, op opcode.Op) []int {
	t.Helper()
	var found [][]int
	for _, line := range strings.Split(table, "\n") {
		left, right, _ := strings.Cut(line, " | ")
		if has(left, op) {
			found = append(found, steps(t, right))
		}
	}
	if len(found) != 1 {
		t.Fatal(op, found)
	}
	return found[0]
}

// is tells whether an opcode has one of these names.
func is(op opcode.Op, of string) bool { return slices.Contains(strings.Fields(of), op.Name) }

// Words: steps and sequences from 0 on.
func TestNumbersOfStepsAndSequences(t *testing.T) {
	got := []int{
		micro.Next, micro.Low, micro.High, micro.Value, micro.Index, micro.PtrLow, micro.PtrHigh, micro.Near,
		micro.Get, micro.Old, micro.Back, micro.New, micro.Put, micro.Peek, micro.PushHigh, micro.PushLow,
		micro.PushP, micro.PushA, micro.PullLow, micro.PullHigh, micro.PullP, micro.PullA, micro.FarLow, micro.FarHigh,
		micro.Jump, micro.Skip, micro.Offset, micro.Take, micro.Cross, micro.VecLow, micro.VecHigh, micro.Drop,
	}
	if len(got) != len(names) {
		t.Fatal(len(got), len(names))
	}
	for want, step := range got {
		if step != want {
			t.Errorf("%s: %d, not %d", names[want], step, want)
		}
	}
	if micro.Reset != 0 || micro.NMI != 1 || micro.IRQ != 2 {
		t.Error(micro.Reset, micro.NMI, micro.IRQ)
	}
}

// P14.1
func TestProgramOfExamples(t *testing.T) {
	for b, want := range map[byte][]int{
		0xea: {micro.Next}, 0x0a: {micro.Next}, 0x9a: {micro.Next}, 0x78: {micro.Next},
		0xa9: {micro.Value}, 0xc0: {micro.Value},
		0xa5: {micro.Low, micro.Get}, 0x24: {micro.Low, micro.Get},
		0xb5: {micro.Low, micro.Index, micro.Get}, 0xb6: {micro.Low, micro.Index, micro.Get},
		0xad: {micro.Low, micro.High, micro.Get}, 0x2c: {micro.Low, micro.High, micro.Get},
		0xbd: {micro.Low, micro.High, micro.Near, micro.Get}, 0xbe: {micro.Low, micro.High, micro.Near, micro.Get},
		0xa1: {micro.Low, micro.Index, micro.PtrLow, micro.PtrHigh, micro.Get},
		0xb1: {micro.Low, micro.PtrLow, micro.PtrHigh, micro.Near, micro.Get},
		0x85: {micro.Low, micro.Put}, 0x95: {micro.Low, micro.Index, micro.Put}, 0x96: {micro.Low, micro.Index, micro.Put},
		0x8d: {micro.Low, micro.High, micro.Put},
		0x9d: {micro.Low, micro.High, micro.Near, micro.Put}, 0x99: {micro.Low, micro.High, micro.Near, micro.Put},
		0x81: {micro.Low, micro.Index, micro.PtrLow, micro.PtrHigh, micro.Put},
		0x91: {micro.Low, micro.PtrLow, micro.PtrHigh, micro.Near, micro.Put},
		0xe6: {micro.Low, micro.Old, micro.Back, micro.New}, 0xf6: {micro.Low, micro.Index, micro.Old, micro.Back, micro.New},
		0xee: {micro.Low, micro.High, micro.Old, micro.Back, micro.New},
		0xfe: {micro.Low, micro.High, micro.Near, micro.Old, micro.Back, micro.New},
		0x4c: {micro.Low, micro.Jump}, 0x6c: {micro.Low, micro.High, micro.FarLow, micro.FarHigh},
		0x20: {micro.Low, micro.Peek, micro.PushHigh, micro.PushLow, micro.Jump},
		0x60: {micro.Next, micro.Peek, micro.PullLow, micro.PullHigh, micro.Skip},
		0x40: {micro.Next, micro.Peek, micro.PullP, micro.PullLow, micro.PullHigh},
		0x48: {micro.Next, micro.PushA}, 0x08: {micro.Next, micro.PushP},
		0x68: {micro.Next, micro.Peek, micro.PullA}, 0x28: {micro.Next, micro.Peek, micro.PullP},
		0x00: {micro.Skip, micro.PushHigh, micro.PushLow, micro.PushP, micro.VecLow, micro.VecHigh},
		0xd0: {micro.Offset, micro.Take, micro.Cross}, 0x10: {micro.Offset, micro.Take, micro.Cross},
	} {
		if l, e := micro.Program(b); !slices.Equal(l, want) || e != api.OK {
			t.Errorf("Program(%#x): %s, %v, not %s", b, text(l), e, text(want))
		}
	}
}

// P14.1
func TestProgramOfAllBytes(t *testing.T) {
	for i := range 256 {
		var want []int
		op, wrong := opcode.Of(byte(i))
		if wrong == api.OK {
			want = wanted(t, op)
		}
		if l, e := micro.Program(byte(i)); !slices.Equal(l, want) || e != wrong {
			t.Errorf("Program(%#x): %s, %v, not %s, %v", i, text(l), e, text(want), wrong)
		}
	}
}

// P14.1
func TestProgramOfNoOpcode(t *testing.T) {
	for _, b := range []byte{0x02, 0x03, 0x04, 0x0f, 0x12, 0x1a, 0x44, 0x5a, 0x80, 0x89, 0x9c, 0x9e, 0xcb, 0xda, 0xeb, 0xfc, 0xff} {
		if l, e := micro.Program(b); len(l) != 0 || e != api.ErrOpcode {
			t.Errorf("Program(%#x): %s, %v", b, text(l), e)
		}
	}
}

// P14.1
func TestSequence(t *testing.T) {
	for kind, want := range map[int][]int{
		micro.Reset: {micro.Next, micro.Next, micro.Drop, micro.Drop, micro.Drop, micro.VecLow, micro.VecHigh},
		micro.NMI:   {micro.Next, micro.Next, micro.PushHigh, micro.PushLow, micro.PushP, micro.VecLow, micro.VecHigh},
		micro.IRQ:   {micro.Next, micro.Next, micro.PushHigh, micro.PushLow, micro.PushP, micro.VecLow, micro.VecHigh},
	} {
		if l, e := micro.Sequence(kind); !slices.Equal(l, want) || e != api.OK {
			t.Errorf("Sequence(%d): %s, %v, not %s", kind, text(l), e, text(want))
		}
	}
}

// P14.1
func TestSequenceOfNoKind(t *testing.T) {
	for _, kind := range noKinds {
		if l, e := micro.Sequence(kind); len(l) != 0 || e != api.ErrKind {
			t.Errorf("Sequence(%d): %s, %v", kind, text(l), e)
		}
	}
}

// answers are those of all opcodes, by rising bytes, and of all sequences.
func answers() [][]int {
	var all [][]int
	for b := range opcode.All() {
		l, _ := micro.Program(b)
		all = append(all, l)
	}
	for kind := range 3 {
		l, _ := micro.Sequence(kind)
		all = append(all, l)
	}
	return all
}

// P14.1, R2: what is answered is the caller's, with what stands behind its length.
func TestAnswersAreTheCallers(t *testing.T) {
	var want []string
	for _, l := range answers() {
		want = append(want, text(l))
	}
	first, second := answers(), answers()
	for _, l := range first {
		l = l[:cap(l)]
		for i := range l {
			l[i] = -1
		}
	}
	for i, l := range second {
		if text(l) != want[i] {
			t.Errorf("%d shares what it has: %s, not %s", i, text(l), want[i])
		}
	}
	for i, l := range answers() {
		if text(l) != want[i] {
			t.Errorf("%d has turned: %s, not %s", i, text(l), want[i])
		}
	}
	for i, l := range second {
		_ = append(l, micro.Drop, micro.Drop)
		for j, o := range second {
			if text(o) != want[j] {
				t.Fatalf("%d has turned by %d: %s, not %s", j, i, text(o), want[j])
			}
		}
	}
}

// R3: no call hangs on those ahead of it.
func TestCallsOneAfterTheOther(t *testing.T) {
	for i := range 256 {
		b := byte(i)
		l, e := micro.Program(b)
		micro.Program(b + 1)
		micro.Program(2)
		micro.Sequence(i % 4)
		micro.Writes(i)
		micro.May(i)
		if o, f := micro.Program(b); !slices.Equal(l, o) || e != f {
			t.Errorf("Program(%#x): %s, %v, then %s, %v", i, text(l), e, text(o), f)
		}
	}
}

// P14.2
func TestWrites(t *testing.T) {
	for step, name := range names {
		want := slices.Contains(strings.Fields("Back New Put PushHigh PushLow PushP PushA"), name)
		if got := micro.Writes(step); got != want {
			t.Errorf("Writes(%s): %v", name, got)
		}
	}
}

// P14.2
func TestMay(t *testing.T) {
	for step, name := range names {
		want := slices.Contains(strings.Fields("Get Take Cross"), name)
		if got := micro.May(step); got != want {
			t.Errorf("May(%s): %v", name, got)
		}
	}
}

// P14.2
func TestWritesAndMayOfOtherNumbers(t *testing.T) {
	others := slices.Clone(noSteps)
	for i := range 70000 {
		others = append(others, -1-i, len(names)+i)
	}
	for _, step := range others {
		if micro.Writes(step) || micro.May(step) {
			t.Fatalf("Writes(%d), May(%d): %v, %v", step, step, micro.Writes(step), micro.May(step))
		}
	}
}

// P14.3
func TestLeastCyclesOfOpcodes(t *testing.T) {
	for b, op := range opcode.All() {
		l, e := micro.Program(b)
		if e != api.OK {
			t.Fatal(b, e)
		}
		least := 1 + len(l)
		if op.Kind == opcode.Reads && slices.Contains(l, micro.Near) && l[len(l)-1] == micro.Get {
			least--
		}
		if op.Mode == opcode.Rel && slices.Contains(l, micro.Take) && slices.Contains(l, micro.Cross) {
			least -= 2
		}
		if n := opcode.Cycles(b); n != least {
			t.Errorf("%s (%s): %d cycles by %s, not %d", op.Name, modes[op.Mode], least, text(l), n)
		}
	}
}

// P14.3
func TestWhichOpcodesWrite(t *testing.T) {
	for b, op := range opcode.All() {
		l, e := micro.Program(b)
		if e != api.OK {
			t.Fatal(b, e)
		}
		want := op.Kind == opcode.Writes || op.Kind == opcode.Turns || is(op, "BRK JSR PHA PHP")
		if got := slices.ContainsFunc(l, micro.Writes); got != want {
			t.Errorf("%s (%s): %v by %s", op.Name, modes[op.Mode], got, text(l))
		}
	}
}

// P14.3: how often they write, too.
func TestHowOftenOpcodesWrite(t *testing.T) {
	for b, op := range opcode.All() {
		want := 0
		switch {
		case op.Kind == opcode.Writes || is(op, "PHA PHP"):
			want = 1
		case op.Kind == opcode.Turns || is(op, "JSR"):
			want = 2
		case is(op, "BRK"):
			want = 3
		}
		l, _ := micro.Program(b)
		got := 0
		for _, step := range l {
			if micro.Writes(step) {
				got++
			}
		}
		if got != want {
			t.Errorf("%s (%s): %d by %s, not %d", op.Name, modes[op.Mode], got, text(l), want)
		}
	}
}
