package timer_test

import (
	"math"
	"testing"

	"cochineal/api"
	"cochineal/timer"
)

// none are numbers of which no register is.
var none = []int{math.MinInt, -1 << 32, -256, -4, -1, 4, 5, 7, 8, 128, 255, 256, 32768, 65536, 1 << 32, 1<<32 + 2, math.MaxInt}

// numbers are some that a latch, or a count, may be: both ends, and where its bytes end.
var numbers = []int{0, 1, 2, 3, 127, 128, 254, 255, 256, 257, 259, 511, 512, 32767, 32768, 65279, 65280, 65281, 65534, 65535}

// kinds calls look with a timer of each kind.
func kinds(latch, count int, look func(x timer.Timer)) {
	for i := range 16 {
		look(timer.Timer{Latch: latch, Count: count, Runs: i%2 == 1, Again: i/2%2 == 1, Asks: i/4%2 == 1, Rings: i/8 == 1})
	}
}

// each calls look with timers of all kinds, with each latch and count of numbers.
func each(look func(x timer.Timer)) {
	for _, latch := range numbers {
		for _, count := range numbers {
			kinds(latch, count, look)
		}
	}
}

// control is the byte that tells what a timer does.
func control(x timer.Timer) int {
	n := 0
	if x.Runs {
		n++
	}
	if x.Again {
		n += 2
	}
	if x.Asks {
		n += 4
	}
	return n
}

// written is a timer behind a Write, by the chapter's words.
func written(x timer.Timer, reg int, v byte) (timer.Timer, api.Errno) {
	n := int(v)
	switch reg {
	case 0:
		x.Latch = x.Latch/256*256 + n
	case 1:
		x.Latch = x.Latch%256 + n*256
	case 2:
		x.Runs, x.Again, x.Asks = n%2 == 1, n/2%2 == 1, n/4%2 == 1
		if x.Runs {
			x.Count = x.Latch
		}
	case 3:
		x.Rings = false
	default:
		return x, api.ErrRange
	}
	return x, api.OK
}

// told is what a Read tells, by the chapter's words.
func told(x timer.Timer, reg int) (byte, api.Errno) {
	switch reg {
	case 0:
		return byte(x.Count % 256), api.OK
	case 1:
		return byte(x.Count / 256), api.OK
	case 2:
		return byte(control(x)), api.OK
	case 3:
		if x.Rings {
			return 128, api.OK
		}
		return 0, api.OK
	}
	return 0, api.ErrRange
}

// ticked is a timer behind a Tick, by the chapter's words.
func ticked(x timer.Timer) timer.Timer {
	if !x.Runs {
		return x
	}
	if x.Count > 0 {
		x.Count--
		return x
	}
	x.Rings = true
	if x.Again {
		x.Count = x.Latch
	} else {
		x.Runs = false
	}
	return x
}

// mayBe tells whether a timer may be.
func mayBe(x timer.Timer) bool {
	return 0 <= x.Latch && x.Latch <= 65535 && 0 <= x.Count && x.Count <= 65535
}

// after is After of what may be.
func after(t *testing.T, x timer.Timer, n int) timer.Timer {
	t.Helper()
	y, e := timer.After(x, n)
	if e != api.OK || !mayBe(y) {
		t.Fatalf("After(%v, %d): %v, %v", x, n, y, e)
	}
	return y
}

// P10.1
func TestWrite(t *testing.T) {
	each(func(x timer.Timer) {
		for reg := range 4 {
			for _, v := range []byte{0, 1, 2, 3, 4, 5, 6, 7, 8, 9, 15, 127, 128, 248, 249, 254, 255} {
				y := x
				e := y.Write(reg, v)
				if want, _ := written(x, reg, v); y != want || e != api.OK {
					t.Fatalf("%v, Write(%d, %d): %v, %v, not %v", x, reg, v, y, e, want)
				}
			}
		}
	})
}

// P10.1
func TestWriteOfAllBytes(t *testing.T) {
	for _, n := range numbers {
		kinds(n, 65535-n, func(x timer.Timer) {
			for v := range 256 {
				for reg := range 4 {
					y := x
					e := y.Write(reg, byte(v))
					if want, _ := written(x, reg, byte(v)); y != want || e != api.OK {
						t.Fatalf("%v, Write(%d, %d): %v, %v, not %v", x, reg, v, y, e, want)
					}
				}
			}
		})
	}
}

// P10.1
func TestAllLatchesAreWritten(t *testing.T) {
	var x timer.Timer
	for n := range 65536 {
		x.Write(0, byte(n%256))
		x.Write(1, byte(n/256))
		if x != (timer.Timer{Latch: n}) {
			t.Fatal(n, x)
		}
	}
}

// P10.1
func TestCountIsAsItWasUnlessItRuns(t *testing.T) {
	x := timer.Timer{Latch: 300, Count: 40, Runs: true, Rings: true}
	for _, c := range []struct {
		v    byte
		want timer.Timer
	}{
		{0xfe, timer.Timer{Latch: 300, Count: 40, Again: true, Asks: true, Rings: true}},
		{0, timer.Timer{Latch: 300, Count: 40, Rings: true}},
		{1, timer.Timer{Latch: 300, Count: 300, Runs: true, Rings: true}},
		{0xf8, timer.Timer{Latch: 300, Count: 300, Rings: true}},
		{5, timer.Timer{Latch: 300, Count: 300, Runs: true, Asks: true, Rings: true}},
	} {
		if e := x.Write(2, c.v); x != c.want || e != api.OK {
			t.Errorf("behind %d: %v, %v, not %v", c.v, x, e, c.want)
		}
	}
	// One that runs already begins again.
	x.Tick()
	x.Write(0, 1)
	if x.Write(2, 1); x.Count != 257 {
		t.Error(x)
	}
}

// P10.1
func TestRead(t *testing.T) {
	each(func(x timer.Timer) {
		for reg := range 4 {
			y := x
			v, e := y.Read(reg)
			if want, _ := told(x, reg); v != want || e != api.OK || y != x {
				t.Fatalf("%v, Read(%d): %d, %v, not %d; then %v", x, reg, v, e, want, y)
			}
		}
	})
}

// P10.1
func TestAllCountsAreRead(t *testing.T) {
	for n := range 65536 {
		x := timer.Timer{Latch: 65535 - n, Count: n}
		low, e := x.Read(0)
		high, f := x.Read(1)
		if int(high)*256+int(low) != n || e != api.OK || f != api.OK {
			t.Fatal(n, low, e, high, f)
		}
	}
}

// P10.1
func TestOfNoRegister(t *testing.T) {
	each(func(x timer.Timer) {
		for _, reg := range none {
			y := x
			if e := y.Write(reg, 255); e != api.ErrRange || y != x {
				t.Fatalf("%v, Write(%d): %v, %v", x, reg, y, e)
			}
			if v, e := y.Read(reg); v != 0 || e != api.ErrRange || y != x {
				t.Fatalf("%v, Read(%d): %d, %v, %v", x, reg, v, e, y)
			}
		}
	})
}

// P10.2
func TestTick(t *testing.T) {
	each(func(x timer.Timer) {
		y := x
		if y.Tick(); y != ticked(x) {
			t.Fatalf("%v: %v, not %v", x, y, ticked(x))
		}
	})
}

// P10.2
func TestTicksOfOneThatRingsOnce(t *testing.T) {
	x := timer.Timer{Latch: 2, Asks: true}
	x.Write(2, 5)
	for i, want := range []timer.Timer{
		{Latch: 2, Count: 1, Runs: true, Asks: true},
		{Latch: 2, Runs: true, Asks: true},
		{Latch: 2, Asks: true, Rings: true},
		{Latch: 2, Asks: true, Rings: true},
	} {
		if x.Tick(); x != want || x.IRQ() != want.Rings {
			t.Error(i, x, x.IRQ())
		}
	}
	x.Write(3, 255)
	for range 10 {
		if x.Tick(); x != (timer.Timer{Latch: 2, Asks: true}) || x.IRQ() {
			t.Error(x)
		}
	}
}

// P10.2
func TestIRQ(t *testing.T) {
	each(func(x timer.Timer) {
		y := x
		if y.IRQ() != (x.Rings && x.Asks) || y != x {
			t.Fatal(x, y)
		}
	})
}

// P10.1, P10.2
func TestOfNil(t *testing.T) {
	var x *timer.Timer
	for _, reg := range append([]int{0, 1, 2, 3}, none...) {
		if e := x.Write(reg, 7); e != api.ErrNil {
			t.Error("Write", reg, e)
		}
		if v, e := x.Read(reg); v != 0 || e != api.ErrNil {
			t.Error("Read", reg, v, e)
		}
	}
	x.Tick()
	if x.IRQ() {
		t.Error("IRQ")
	}
}

// P10.2
func TestAfterOfWhatMayNotBe(t *testing.T) {
	for _, c := range []struct{ latch, count, n int }{
		{-1, 5, 3}, {65536, 5, 3}, {5, -1, 3}, {5, 65536, 3},
		{-1, 5, 0}, {65536, 5, 0}, {5, -1, 0}, {5, 65536, 0},
		{-1, -1, 3}, {65536, 65536, 3}, {-65536, 0, 1 << 40}, {1 << 40, 0, 1 << 40}, {0, 1 << 32, 1},
		{math.MinInt, 0, 1}, {math.MaxInt, 0, 1}, {0, math.MinInt, 1}, {0, math.MaxInt, 1},
		{math.MaxInt, math.MaxInt, math.MaxInt}, {math.MinInt, math.MinInt, math.MinInt},
		{5, 5, -1}, {5, 5, 1<<40 + 1}, {5, 5, 1 << 41}, {5, 5, -1 << 40}, {5, 5, math.MinInt}, {5, 5, math.MaxInt},
		{0, 0, -1}, {65535, 65535, 1<<40 + 1},
	} {
		kinds(c.latch, c.count, func(x timer.Timer) {
			if y, e := timer.After(x, c.n); y != (timer.Timer{}) || e != api.ErrRange {
				t.Errorf("After(%v, %d): %v, %v", x, c.n, y, e)
			}
		})
	}
}

// P10.2
func TestAfterIsSoManyTicks(t *testing.T) {
	for latch := range 8 {
		for count := range 10 {
			kinds(latch, count, func(x timer.Timer) {
				want := x
				for n := range 60 {
					if y := after(t, x, n); y != want {
						t.Fatalf("After(%v, %d): %v, not %v", x, n, y, want)
					}
					want = ticked(want)
				}
			})
		}
	}
}

// P10.2
func TestAfterOfGreatTimers(t *testing.T) {
	for _, latch := range []int{0, 1, 255, 256, 32768, 65534, 65535} {
		for _, count := range []int{0, 1, 256, 65534, 65535} {
			for _, again := range []bool{false, true} {
				x := timer.Timer{Latch: latch, Count: count, Runs: true, Again: again}
				want := x
				for n := range 140000 {
					// Each one near where it rings; of the others some.
					if near := want.Runs && (want.Count < 3 || want.Count > latch-3); near || n%31 == 0 {
						if y := after(t, x, n); y != want {
							t.Fatalf("After(%v, %d): %v, not %v", x, n, y, want)
						}
					}
					want = ticked(want)
				}
			}
		}
	}
}

// P10.2, P10.3
func TestAfterOfManyTicks(t *testing.T) {
	for _, latch := range []int{0, 1, 2, 6, 255, 999, 40000, 65534, 65535} {
		kinds(latch, 65535-latch, func(x timer.Timer) {
			want := x
			for range 1 << 16 {
				want = ticked(want)
			}
			// Then twice as many each time, up to the most that there may be.
			for n := 1 << 16; ; n *= 2 {
				y := after(t, x, n)
				if y != want {
					t.Fatalf("After(%v, %d): %v, not %v", x, n, y, want)
				}
				if n == 1<<40 {
					return
				}
				want = after(t, y, n)
			}
		})
	}
}

// P10.2: found by reckoning, without a Tick.
func TestAfterOfTheMostTicks(t *testing.T) {
	const n = 1 << 40
	for _, c := range []struct{ x, want timer.Timer }{
		{timer.Timer{Latch: 9, Count: 7, Asks: true}, timer.Timer{Latch: 9, Count: 7, Asks: true}},
		{timer.Timer{Latch: 9, Count: 7, Again: true, Rings: true}, timer.Timer{Latch: 9, Count: 7, Again: true, Rings: true}},
		{timer.Timer{Latch: 65535, Count: 65535, Runs: true}, timer.Timer{Latch: 65535, Rings: true}},
		{timer.Timer{Latch: 65535, Count: 65535, Runs: true, Again: true}, timer.Timer{Latch: 65535, Count: 65535, Runs: true, Again: true, Rings: true}},
		{timer.Timer{Latch: 65535, Runs: true, Again: true}, timer.Timer{Latch: 65535, Runs: true, Again: true, Rings: true}},
		// 2^40 is 1 more than a number of rounds of 3, and 6 more than one of rounds of 10.
		{timer.Timer{Latch: 2, Count: 2, Runs: true, Again: true}, timer.Timer{Latch: 2, Count: 1, Runs: true, Again: true, Rings: true}},
		{timer.Timer{Latch: 9, Count: 9, Runs: true, Again: true, Asks: true}, timer.Timer{Latch: 9, Count: 3, Runs: true, Again: true, Asks: true, Rings: true}},
		{timer.Timer{Latch: 9, Count: 2, Runs: true, Again: true}, timer.Timer{Latch: 9, Count: 6, Runs: true, Again: true, Rings: true}},
		// The first round is of 13 Ticks, longer than its Latch.
		{timer.Timer{Latch: 2, Count: 12, Runs: true, Again: true}, timer.Timer{Latch: 2, Count: 2, Runs: true, Again: true, Rings: true}},
	} {
		if y := after(t, c.x, n); y != c.want {
			t.Errorf("After(%v, 2^40): %v, not %v", c.x, y, c.want)
		}
	}
}

// row is a row of numbers that looks without order, the same one each time.
type row uint64

func (r *row) next(below int) int {
	*r = *r*6364136223846793005 + 1442695040888963407
	return int(uint64(*r) >> 16 % uint64(below))
}

// some is a timer that may be.
func (r *row) some() timer.Timer {
	top := []int{3, 20, 300, 65536}[r.next(4)]
	n := r.next(16)
	return timer.Timer{Latch: r.next(top), Count: r.next(top), Runs: n%4 > 0, Again: n%2 > 0, Asks: n/4%2 > 0, Rings: n/8 > 0}
}

// P10.3
func TestAfterOfTwoNumbersTogether(t *testing.T) {
	r := row(10)
	for range 200000 {
		x := r.some()
		top := []int{4, 70000, 1 << 30, 1<<39 + 1}[r.next(4)]
		a, b := r.next(top), r.next(top)
		one, other := after(t, after(t, x, a), b), after(t, after(t, x, b), a)
		if both := after(t, x, a+b); both != one || both != other {
			t.Fatalf("After of %v: %d and %d: %v, together %v, turned %v", x, a, b, one, both, other)
		}
	}
}

// ringsEach tells whether one that runs again and again rings after each Latch and 1 Ticks, so many times.
func ringsEach(t *testing.T, latch, times int) {
	t.Helper()
	var x timer.Timer
	x.Write(0, byte(latch))
	x.Write(1, byte(latch>>8))
	x.Write(2, 7)
	for range times {
		for n := range latch + 1 {
			if x.IRQ() {
				t.Fatal(latch, "rings behind", n)
			}
			x.Tick()
		}
		if !x.IRQ() || x.Count != latch || !x.Runs {
			t.Fatal(latch, x)
		}
		x.Write(3, 0)
	}
}

// P10.3
func TestRingsEachLatchAndOneTicks(t *testing.T) {
	for latch := range 1000 {
		ringsEach(t, latch, 5)
	}
	for latch := 65500; latch <= 65535; latch++ {
		ringsEach(t, latch, 2)
	}
}

// P10.3
func TestWhatMayBeMayBeBehindAnyCall(t *testing.T) {
	r := row(3)
	x, want := timer.Timer{}, timer.Timer{}
	for i := range 300000 {
		switch reg, v := r.next(6)-1, byte(r.next(256)); r.next(6) {
		case 0:
			e := x.Write(reg, v)
			var f api.Errno
			if want, f = written(want, reg, v); e != f {
				t.Fatal(i, reg, v, e, f)
			}
		case 1:
			b, e := x.Read(reg)
			if c, f := told(want, reg); b != c || e != f {
				t.Fatal(i, reg, b, e, c, f)
			}
		case 2:
			n := r.next(50)
			x = after(t, x, n)
			for range n {
				want = ticked(want)
			}
		case 3:
			if r.next(10) == 0 {
				x = r.some()
				want = x
			}
		default:
			x.Tick()
			want = ticked(want)
		}
		if x != want || !mayBe(x) || x.IRQ() != (want.Rings && want.Asks) {
			t.Fatal(i, x, want)
		}
	}
}

// R3
func TestTimersDoNotTellOfEachOther(t *testing.T) {
	x := timer.Timer{Latch: 7, Count: 4, Runs: true}
	y := x
	x.Write(0, 9)
	x.Write(2, 7)
	x.Tick()
	after(t, x, 100)
	if y != (timer.Timer{Latch: 7, Count: 4, Runs: true}) {
		t.Error(y)
	}
	if x != (timer.Timer{Latch: 9, Count: 8, Runs: true, Again: true, Asks: true}) {
		t.Error(x)
	}
}

// R1: nothing is promised of timers that may not be, but that calls end.
func TestOfTimersThatMayNotBe(t *testing.T) {
	for _, n := range []int{math.MinInt, -65536, -1, 65536, math.MaxInt} {
		kinds(n, n, func(x timer.Timer) {
			for reg := -1; reg < 5; reg++ {
				y := x
				y.Read(reg)
				y.Write(reg, 255)
				y.Tick()
				y.IRQ()
			}
		})
	}
}

// P10.1, P10.2 (the chapter's example)
func TestExample(t *testing.T) {
	x := timer.Timer{Latch: 2}
	if e := x.Write(2, 3); e != api.OK {
		t.Error(e)
	}
	y := after(t, x, 3)
	for n := range 3 {
		if x.Rings {
			t.Error("rings behind", n)
		}
		x.Tick()
	}
	if want := (timer.Timer{Latch: 2, Count: 2, Runs: true, Again: true, Rings: true}); x != want || y != want {
		t.Error(x, y)
	}
}
