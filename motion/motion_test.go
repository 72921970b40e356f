package motion_test

import (
	"math"
	"math/rand"
	"testing"

	"woodgrain/api"
	"woodgrain/motion"
)

// begun is a motion behind a strobe, and its model.
func begun() (*motion.Motion, *model) {
	x, m := motion.New(), &model{}
	x.Strobe()
	m.strobe()
	return x, m
}

// set is a motion that has these words.
func set(t *testing.T, w [3]int) *motion.Motion {
	t.Helper()
	x := motion.New()
	if e := x.Set(w); e != api.OK {
		t.Fatalf("P17.2: Set(%v): %d", w, e)
	}
	return x
}

// eachWords goes over all words that can be.
func eachWords(yield func(w [3]int) bool) {
	if !yield([3]int{16, 0, 0}) {
		return
	}
	for n := range 16 * 4 * 32 {
		if !yield([3]int{n / 128, n / 32 % 4, n % 32}) {
			return
		}
	}
}

func TestIdle(t *testing.T) {
	x := motion.New()
	has(t, "P17.1", x, model{})
	if x.Words() != [3]int{16, 0, 0} || x.Busy() {
		t.Errorf("P17.1, P17.2: %v, under way %v", x.Words(), x.Busy())
	}
	for clock := range 228 {
		both(t, x, &model{}, clock, [5]uint8{0, 7, 8, 15, 3})
	}
	motion.New().Strobe()
	has(t, "R5", x, model{})
}

func TestStrobe(t *testing.T) {
	x := motion.New()
	x.Strobe()
	if x.Words() != [3]int{0, 0, 31} || !x.Busy() {
		t.Errorf("P17.1: behind a strobe: %v, under way %v", x.Words(), x.Busy())
	}
	m := model{}
	m.strobe()
	for w := range eachWords { // under way and idle
		x := set(t, w)
		x.Strobe()
		has(t, "P17.1", x, m)
	}
}

// The three clocks behind a strobe go by, multiples of 4 or not.
func TestThreeClocks(t *testing.T) {
	for first := range 228 {
		x, _ := begun()
		for k := range 3 {
			if told := x.Step(first+k, [5]uint8{}); told != [5]bool{} || x.Words() != [3]int{0, k + 1, 31} {
				t.Fatalf("P17.1: clock %d, %d behind the strobe: %v, %v", first+k, k, told, x.Words())
			}
		}
		told := x.Step(first+3, [5]uint8{})
		if moves := (first+3)%4 == 0; told != [5]bool{moves, moves, moves, moves, moves} {
			t.Fatalf("P17.1: clock %d, 3 behind the strobe: %v", first+3, told)
		}
	}
	x, _ := begun()
	for range 3 { // it is how many went by that counts, not which
		if told := x.Step(4, [5]uint8{}); told != [5]bool{} {
			t.Errorf("P17.1: %v", told)
		}
	}
	if told := x.Step(4, [5]uint8{}); told == [5]bool{} || x.Words() != [3]int{1, 3, 31} {
		t.Errorf("P17.1: %v, %v", told, x.Words())
	}
}

// Each nibble, by what it has above its lower bits, tells how often its thing moves.
func TestHowOften(t *testing.T) {
	for thing := range 5 {
		for nibble := range 256 {
			x, m := begun()
			nibbles := [5]uint8{1, 2, 3, 4, 5}
			nibbles[thing] = uint8(nibble)
			n := 0
			for clock := range 80 {
				told := x.Step(clock, nibbles)
				if told != m.step(clock, nibbles) {
					t.Fatalf("P17.1: clock %d, %v: %v", clock, nibbles, told)
				}
				if told[thing] {
					n++
				}
				has(t, "P17.1", x, *m)
			}
			want := [16]int{8, 9, 10, 11, 12, 13, 14, 15, 0, 1, 2, 3, 4, 5, 6, 7}[nibble%16]
			if n != want {
				t.Errorf("P17.1: thing %d, nibble %d: it is told to move %d times, not %d", thing, nibble, n, want)
			}
		}
	}
}

// Clocks that are no multiples of 4 do nothing, whatever they are.
func TestWhichClocks(t *testing.T) {
	clocks := []int{-8, -5, -4, -3, -1, math.MinInt, math.MaxInt, math.MaxInt - 3, 1 << 40, 1<<40 + 2}
	for clock := range 240 {
		clocks = append(clocks, clock)
	}
	for _, clock := range clocks {
		x, m := set(t, [3]int{3, 3, 31}), of([3]int{3, 3, 31})
		both(t, x, &m, clock, [5]uint8{11, 0, 11, 0, 0})
		if moved := x.Words()[0] == 4; moved != (clock%4 == 0) {
			t.Errorf("P17.1: at clock %d: %v", clock, x.Words())
		}
	}
}

// Five things end at counts of their own; all told, it goes on up to 15.
func TestEnds(t *testing.T) {
	nibbles := [5]uint8{8, 9, 15, 0, 7} // at 0, 1, 7, 8, 15
	x, m := begun()
	for clock := -3; clock < 0; clock++ {
		both(t, x, m, clock, nibbles)
	}
	for k, still := range []int{30, 28, 28, 28, 28, 28, 28, 24, 16, 16, 16, 16, 16, 16, 16} {
		both(t, x, m, 4*k, nibbles)
		if x.Words() != [3]int{k + 1, 3, still} {
			t.Fatalf("P17.1: behind the count %d: %v, not %d", k, x.Words(), still)
		}
	}
	if !x.Busy() {
		t.Error("P17.1: it is under way ahead of the end of count 15")
	}
	if told := x.Step(60, nibbles); told != [5]bool{} || x.Busy() || x.Words() != [3]int{16, 0, 0} {
		t.Errorf("P17.1: behind the count 15: %v, %v", told, x.Words())
	}
	if told := x.Step(64, [5]uint8{}); told != [5]bool{} {
		t.Errorf("P17.1: idle: %v", told)
	}
}

// None moves any more, and still it counts.
func TestUnderWayWithNone(t *testing.T) {
	x := set(t, [3]int{5, 3, 0})
	for n := 5; n < 16; n++ {
		if !x.Busy() {
			t.Fatalf("P17.1: not under way at the count %d", n)
		}
		if told := x.Step(8, [5]uint8{}); told != [5]bool{} {
			t.Errorf("P17.1: %v", told)
		}
	}
	has(t, "P17.1", x, model{})
}

// A thing whose nibble is changed to what has gone by moves at count 15, too;
// behind it all is idle.
func TestNibbleChangedUnderWay(t *testing.T) {
	x, m := begun()
	moves := 0
	for clock := range 200 {
		nibbles := [5]uint8{7}
		if clock > 20 {
			nibbles[0] = 8
		}
		was := *m
		both(t, x, m, clock, nibbles)
		if was.busy && was.gone == 3 && clock%4 == 0 {
			moves++
		}
	}
	if moves != 16 {
		t.Errorf("P17.1: it counts %d times", moves)
	}
	x = set(t, [3]int{15, 3, 31})
	if told := x.Step(0, [5]uint8{8, 7, 0, 15, 0x17}); told != [5]bool{true, false, true, true, false} || x.Words() != [3]int{16, 0, 0} {
		t.Errorf("P17.1: at the count 15: %v, %v", told, x.Words())
	}
}

// A thing that has ended is not begun again by a nibble that is changed.
func TestEndedStaysEnded(t *testing.T) {
	x := set(t, [3]int{2, 3, 3})
	if told := x.Step(12, [5]uint8{10, 0}); told != [5]bool{false, true} {
		t.Errorf("P17.1: %v", told)
	}
	if told := x.Step(16, [5]uint8{0, 0}); told != [5]bool{false, true} || x.Words() != [3]int{4, 3, 2} {
		t.Errorf("P17.1: %v, %v", told, x.Words())
	}
}

// One step from all words that can be, by each nibble.
func TestStepOfEachState(t *testing.T) {
	for w := range eachWords {
		for nibble := range uint8(16) {
			for clock := 7; clock < 10; clock++ {
				m := of(w)
				nibbles := [5]uint8{nibble, nibble ^ 1, nibble + 16, nibble + 1, nibble | 0xF0}
				both(t, set(t, w), &m, clock, nibbles)
			}
		}
	}
}

func TestLongRuns(t *testing.T) {
	for seed := range int64(20) {
		r := rand.New(rand.NewSource(seed))
		x, m := motion.New(), &model{}
		var nibbles [5]uint8
		for at := range 20000 {
			switch k := r.Intn(100); {
			case k == 0:
				x.Strobe()
				m.strobe()
			case k < 3:
				nibbles[r.Intn(5)] = uint8(r.Intn(256))
			case k == 3:
				x = x.Copy()
			case k == 4:
				x = set(t, x.Words())
			}
			clock := at % 228
			if seed%4 == 3 {
				clock = r.Intn(228)
			}
			both(t, x, m, clock, nibbles)
		}
	}
}

func TestSetTakesAllThatCanBe(t *testing.T) {
	x := motion.New()
	for w := range eachWords {
		if e := x.Set(w); e != api.OK || x.Words() != w || x.Busy() != (w[0] != 16) {
			t.Fatalf("P17.2: Set(%v): %d, it has %v, under way %v", w, e, x.Words(), x.Busy())
		}
	}
}

func TestSetRefuses(t *testing.T) {
	wrong := [][3]int{}
	for _, n := range []int{-1, -16, 17, 32, 256, 1 << 32, math.MinInt, math.MaxInt} {
		wrong = append(wrong, [3]int{n, 0, 0}, [3]int{n, 3, 31}, [3]int{n, n, n})
	}
	for _, n := range []int{-1, -4, 4, 5, 256, 1 << 32, math.MinInt, math.MaxInt} {
		wrong = append(wrong, [3]int{0, n, 0}, [3]int{15, n, 31}, [3]int{16, n, 0})
	}
	for _, n := range []int{-1, -32, 32, 33, 63, 256, 1 << 32, math.MinInt, math.MaxInt} {
		wrong = append(wrong, [3]int{0, 0, n}, [3]int{15, 3, n}, [3]int{16, 0, n})
	}
	for n := 1; n < 32; n++ {
		wrong = append(wrong, [3]int{16, 0, n}, [3]int{16, n % 4, n}, [3]int{16, 1 + n%3, 0})
	}
	for _, good := range [][3]int{{3, 2, 21}, {16, 0, 0}} {
		x := set(t, good)
		for _, w := range wrong {
			if e := x.Set(w); e != api.ErrRange {
				t.Errorf("P17.2: Set(%v): %d", w, e)
			}
			has(t, "R2", x, of(good))
		}
	}
}

// The words that a motion has make another one that goes on as it does.
func TestWordsFromOneSetInAnother(t *testing.T) {
	nibbles := [5]uint8{0, 3, 7, 8, 12}
	x, _ := begun()
	y := motion.New()
	for clock := range 80 {
		if e := y.Set(x.Words()); e != api.OK {
			t.Fatalf("P17.2: Set(%v): %d", x.Words(), e)
		}
		m := of(x.Words())
		for k := clock; k < clock+80; k++ {
			both(t, y, &m, k, nibbles)
		}
		x.Step(clock, nibbles)
	}
}

// Neither a motion nor its copy goes on with the other one.
func TestCopy(t *testing.T) {
	for w := range eachWords {
		x, m := set(t, w), of(w)
		y := x.Copy()
		has(t, "P17.2", y, m)
		x.Step(4, [5]uint8{8, 9, 10, 11, 12})
		has(t, "P17.2", y, m)
		x.Strobe()
		has(t, "P17.2", y, m)
		x.Set(w)
		y.Step(4, [5]uint8{8, 9, 10, 11, 12})
		has(t, "P17.2", x, m)
		y.Strobe()
		has(t, "P17.2", x, m)
		y.Set([3]int{16, 0, 0})
		has(t, "P17.2", x, m)
	}
}

func TestNil(t *testing.T) {
	var x *motion.Motion
	x.Strobe()
	if told := x.Step(0, [5]uint8{}); told != [5]bool{} || x.Busy() {
		t.Errorf("P17.4: of nil: %v, under way %v", told, x.Busy())
	}
	if w := x.Words(); w != [3]int{} {
		t.Errorf("P17.4: of nil: words %v", w)
	}
	for _, w := range [][3]int{{16, 0, 0}, {0, 0, 31}, {-1, 0, 0}} {
		if e := x.Set(w); e != api.ErrArg {
			t.Errorf("P17.4: of nil: Set(%v): %d", w, e)
		}
	}
	if x.Copy() != nil {
		t.Error("P17.4: the copy of nil is not nil")
	}
}
