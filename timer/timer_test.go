package timer_test

import (
	"math"
	"testing"

	"woodgrain/api"
	"woodgrain/timer"
)

var intervals = [4]int{1, 8, 64, 1024}

// has holds a timer against what it should have.
func has(t *testing.T, promise string, x *timer.Timer, w [5]int) {
	t.Helper()
	if x.Words() != w || int(x.Value()) != w[0] || x.Fast() != (w[3] == 1) || x.Flag() != (w[4] == 1) {
		t.Fatalf("%s: it has %v, value %d, fast %v, flag %v, not %v", promise, x.Words(), x.Value(), x.Fast(), x.Flag(), w)
	}
}

func ticks(x *timer.Timer, n int) {
	for range n {
		x.Tick()
	}
}

func TestNew(t *testing.T) {
	x := timer.New()
	has(t, "P6.1", x, [5]int{255, 1024, 1, 0, 0})
	x.Tick()
	has(t, "P6.1", x, [5]int{254, 1024, 1024, 0, 0})
	if timer.New() == timer.New() {
		t.Error("R4: two timers are one")
	}
}

// TestClosedForm holds each cycle against the form of P6.3.
func TestClosedForm(t *testing.T) {
	for number, p := range intervals {
		for v := range 256 {
			if p == 1024 && v%51 != 0 && v > 2 { // a long way: not all of them
				continue
			}
			x := timer.New()
			x.Write(uint8(v), number)
			for k := 1; k <= v*p+600; k++ {
				x.Tick()
				want, over := v-1-(k-1)/p, false
				if want < 0 {
					want, over = 255-(k-1-v*p)%256, true
				}
				if int(x.Value()) != want || x.Flag() != over || x.Fast() != over {
					t.Fatalf("P6.3: %d with interval %d, behind %d cycles: %d, flag %v, fast %v", v, p, k, x.Value(), x.Flag(), x.Fast())
				}
			}
		}
	}
}

func TestFromZeroTo255(t *testing.T) {
	for number, p := range intervals {
		for _, v := range []int{0, 1, 2, 100, 255} {
			x := timer.New()
			x.Write(uint8(v), number)
			ticks(x, v*p)
			if v > 0 {
				has(t, "P6.3", x, [5]int{0, p, 1, 0, 0})
			}
			x.Tick()
			has(t, "P6.3", x, [5]int{255, p, p, 1, 1})
			ticks(x, 255)
			has(t, "P6.3", x, [5]int{0, p, p, 1, 1})
			x.Tick()
			has(t, "P6.3", x, [5]int{255, p, p, 1, 1})
		}
	}
}

func TestExamples(t *testing.T) {
	x := timer.New()
	x.Write(2, 1)
	ticks(x, 1)
	has(t, "P6.3", x, [5]int{1, 8, 8, 0, 0})
	ticks(x, 8)
	has(t, "P6.3", x, [5]int{0, 8, 8, 0, 0})
	ticks(x, 8)
	has(t, "P6.3", x, [5]int{255, 8, 8, 1, 1})
	ticks(x, 1)
	has(t, "P6.3", x, [5]int{254, 8, 8, 1, 1})
	if v := x.Read(); v != 254 {
		t.Errorf("P6.1: Read: %d", v)
	}
	has(t, "P6.1", x, [5]int{254, 8, 8, 0, 0})
	ticks(x, 7)
	has(t, "P6.1", x, [5]int{254, 8, 1, 0, 0})
	ticks(x, 1)
	has(t, "P6.1", x, [5]int{253, 8, 8, 0, 0})
}

func TestIntervalModulo4(t *testing.T) {
	for number, want := range map[int]int{
		0: 1, 1: 8, 2: 64, 3: 1024, 4: 1, 5: 8, 6: 64, 7: 1024, 1000: 1, 1003: 1024,
		-1: 1024, -2: 64, -3: 8, -4: 1, -5: 1024, -1001: 1024,
		math.MinInt: 1, math.MinInt + 1: 8, math.MaxInt: 1024, math.MaxInt - 1: 64,
	} {
		x := timer.New()
		x.Write(9, number)
		has(t, "P6.1", x, [5]int{9, want, 1, 0, 0})
	}
}

func TestWriteWhatever(t *testing.T) {
	for _, w := range [][5]int{{255, 1024, 1, 0, 0}, {0, 8, 8, 1, 1}, {17, 64, 33, 0, 1}, {255, 1, 1, 1, 0}} {
		for number, p := range intervals {
			x := timer.New()
			x.Set(w)
			x.Write(200, number)
			has(t, "P6.1", x, [5]int{200, p, 1, 0, 0})
		}
	}
}

func TestRead(t *testing.T) {
	for _, x := range []struct{ before, after [5]int }{
		{[5]int{9, 64, 33, 0, 0}, [5]int{9, 64, 33, 0, 0}}, // a slow one goes on as it was
		{[5]int{9, 64, 1, 0, 0}, [5]int{9, 64, 1, 0, 0}},
		{[5]int{9, 64, 33, 0, 1}, [5]int{9, 64, 33, 0, 0}},
		{[5]int{9, 64, 64, 1, 1}, [5]int{9, 64, 64, 0, 0}},
		{[5]int{9, 64, 33, 1, 1}, [5]int{9, 64, 64, 0, 0}},
		{[5]int{9, 64, 33, 1, 0}, [5]int{9, 64, 64, 0, 0}},
		{[5]int{0, 1, 1, 1, 1}, [5]int{0, 1, 1, 0, 0}},
		{[5]int{255, 1024, 1, 1, 1}, [5]int{255, 1024, 1024, 0, 0}},
	} {
		y := timer.New()
		y.Set(x.before)
		if v := y.Read(); int(v) != x.before[0] {
			t.Errorf("P6.1: Read of %v: %d", x.before, v)
		}
		has(t, "P6.1", y, x.after)
		if v := y.Read(); int(v) != x.before[0] {
			t.Errorf("P6.1: Read once more: %d", v)
		}
		has(t, "P6.1", y, x.after)
	}
}

func TestReadFastIsSlowAgain(t *testing.T) {
	for number, p := range intervals {
		x := timer.New()
		x.Write(0, number)
		ticks(x, 6) // 255 behind the first one
		x.Read()
		ticks(x, 250*p) // down to 0, slow
		has(t, "P6.1", x, [5]int{0, p, p, 0, 0})
		ticks(x, p)
		has(t, "P6.1", x, [5]int{255, p, p, 1, 1})
	}
}

func TestTickOfEachState(t *testing.T) {
	for _, x := range []struct{ before, after [5]int }{
		{[5]int{5, 8, 8, 0, 0}, [5]int{5, 8, 7, 0, 0}},
		{[5]int{5, 8, 2, 0, 1}, [5]int{5, 8, 1, 0, 1}},
		{[5]int{5, 8, 1, 0, 0}, [5]int{4, 8, 8, 0, 0}},
		{[5]int{5, 8, 1, 0, 1}, [5]int{4, 8, 8, 0, 1}},
		{[5]int{0, 8, 2, 0, 0}, [5]int{0, 8, 1, 0, 0}},
		{[5]int{0, 8, 1, 0, 0}, [5]int{255, 8, 8, 1, 1}},
		{[5]int{5, 8, 3, 1, 1}, [5]int{4, 8, 8, 1, 1}},
		{[5]int{5, 8, 1, 1, 0}, [5]int{4, 8, 8, 1, 0}},
		{[5]int{0, 8, 3, 1, 0}, [5]int{255, 8, 8, 1, 0}}, // a fast one sets no flag
		{[5]int{0, 1, 1, 0, 0}, [5]int{255, 1, 1, 1, 1}},
		{[5]int{1, 1, 1, 0, 0}, [5]int{0, 1, 1, 0, 0}},
	} {
		y := timer.New()
		y.Set(x.before)
		y.Tick()
		has(t, "P6.1", y, x.after)
	}
}

func TestNothingIsChangedByAsking(t *testing.T) {
	for _, w := range [][5]int{{3, 64, 20, 0, 0}, {3, 64, 64, 1, 1}} {
		x := timer.New()
		x.Set(w)
		for range 3 {
			has(t, "P6.1", x, w)
		}
	}
}

func TestSet(t *testing.T) {
	for _, p := range intervals {
		for _, value := range []int{0, 1, 128, 255} {
			for _, left := range []int{1, (p + 1) / 2, p} {
				for bits := range 4 {
					w := [5]int{value, p, left, bits & 1, bits >> 1}
					x := timer.New()
					if e := x.Set(w); e != api.OK {
						t.Errorf("P6.2: Set(%v): %d", w, e)
					}
					has(t, "P6.2", x, w)
				}
			}
		}
	}
}

func TestSetRefuses(t *testing.T) {
	good := [5]int{17, 64, 30, 0, 1}
	wrong := [5][]int{
		{-1, 256, 1 << 16},
		{0, -1, 2, 3, 4, 7, 9, 16, 63, 65, 128, 512, 1023, 1025, 4096, -64},
		{0, -1, 65, 1024},
		{-1, 2, 256},
		{-1, 2, 256},
	}
	x := timer.New()
	x.Set(good)
	for place, numbers := range wrong {
		for _, n := range append(numbers, math.MinInt, math.MaxInt) {
			w := [5]int{18, 64, 31, 1, 0}
			w[place] = n
			if e := x.Set(w); e != api.ErrRange {
				t.Errorf("P6.2: Set(%v): %d", w, e)
			}
			has(t, "R2", x, good)
		}
	}
	for _, p := range intervals {
		if x.Set([5]int{0, p, p + 1, 0, 0}) != api.ErrRange || x.Set([5]int{0, p, 0, 0, 0}) != api.ErrRange {
			t.Errorf("P6.2: interval %d: cycles are left that can't be", p)
		}
	}
	if x.Set([5]int{}) != api.ErrRange {
		t.Error("P6.2: Set of zeros")
	}
}

func TestWordsFromOneSetInAnother(t *testing.T) {
	x, y := timer.New(), timer.New()
	x.Write(3, 1)
	for k := range 300 {
		if e := y.Set(x.Words()); e != api.OK || y.Words() != x.Words() {
			t.Fatalf("P6.2: Set of %v: %d", x.Words(), e)
		}
		x.Tick()
		y.Tick()
		if y.Words() != x.Words() {
			t.Fatalf("P6.2: behind %d cycles the words are %v, not %v", k+1, y.Words(), x.Words())
		}
	}
}

func TestCopy(t *testing.T) {
	x := timer.New()
	w := [5]int{7, 8, 3, 0, 0}
	x.Set(w)
	y := x.Copy()
	has(t, "P6.2", y, w)
	ticks(y, 70)
	has(t, "P6.2", x, w)
	z := x.Copy()
	x.Write(1, 0)
	has(t, "P6.2", z, w)
}

func TestNilTimer(t *testing.T) {
	var x *timer.Timer
	x.Tick()
	x.Write(5, 2)
	if x.Read() != 0 || x.Value() != 0 || x.Flag() || x.Fast() || x.Words() != [5]int{} || x.Copy() != nil {
		t.Error("P6.3: a nil timer has something")
	}
	for _, w := range [][5]int{{}, {1, 8, 1, 0, 0}, {-1, 0, 0, 0, 0}} {
		if e := x.Set(w); e != api.ErrArg {
			t.Errorf("P6.3: Set(%v) of nil: %d", w, e)
		}
	}
}
