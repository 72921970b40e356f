package sprite_test

import (
	"math"
	"slices"
	"testing"

	"woodgrain/api"
	"woodgrain/sprite"
)

func ticks(x *sprite.Thing, copies uint8, n int) {
	for range n {
		x.Tick(copies)
	}
}

// noCounts are numbers that are no count of a thing.
var noCounts = []int{-1, -160, 160, 161, 255, 320, math.MinInt, math.MaxInt}

func TestNew(t *testing.T) {
	x, y := sprite.New(), sprite.New()
	has(t, "P16.1", x, model{0, 255, 255})
	y.Put(159)
	y.Tick(0)
	has(t, "R5", x, model{0, 255, 255})
	has(t, "P16.1", y, model{0, 0, 255})
	x.Tick(0)
	has(t, "P16.1", x, model{1, 255, 255})
}

func TestStarts(t *testing.T) {
	for copies := range 256 {
		got := sprite.Starts(uint8(copies))
		if !slices.Equal(got, starts[copies%8]) {
			t.Errorf("P16.1: Starts(%d): %v", copies, got)
		}
		for i := range got {
			got[i] = -1
		}
		if !slices.Equal(sprite.Starts(uint8(copies)), starts[copies%8]) {
			t.Errorf("R4: Starts(%d) hangs on what was handed out", copies)
		}
	}
}

func TestExample(t *testing.T) {
	x := sprite.New()
	x.Put(159)
	x.Tick(1)
	has(t, "P16.1", x, model{0, 0, 255})
	if x.Dot(4) != 251 {
		t.Errorf("P16.1: Dot(4): %d", x.Dot(4))
	}
	ticks(x, 1, 4)
	if has(t, "P16.1", x, model{4, 4, 255}); x.Dot(4) != 0 {
		t.Errorf("P16.1: Dot(4): %d", x.Dot(4))
	}
}

// Each count, by each copies' number: does a tick to it start?
func TestTickStarts(t *testing.T) {
	for copies := range 256 {
		for n := range 160 {
			x := set(t, model{(n + 159) % 160, 100, 255})
			x.Tick(uint8(copies))
			want := model{n, 101, 255}
			if slices.Contains(starts[copies%8], n) {
				want = model{n, 0, 101}
			}
			has(t, "P16.1", x, want)
		}
	}
}

func TestAgesStayAt255(t *testing.T) {
	x := set(t, model{10, 254, 255})
	for i := range 5 {
		x.Tick(0)
		has(t, "P16.1", x, model{11 + i, 255, 255})
	}
	x = set(t, model{10, 2, 253})
	for i, elder := range []int{254, 255, 255, 255, 255, 255} {
		x.Tick(0)
		has(t, "P16.1", x, model{11 + i, 3 + i, elder})
	}
	x = set(t, model{159, 255, 255})
	x.Tick(0)
	has(t, "P16.1", x, model{0, 0, 255})
	x = set(t, model{159, 254, 255})
	x.Tick(0)
	has(t, "P16.1", x, model{0, 0, 255})
	x = set(t, model{159, 253, 255})
	x.Tick(0)
	has(t, "P16.1", x, model{0, 0, 254})
}

// The elder age counts while the younger one is 7, and not from 8 on.
func TestElderAge(t *testing.T) {
	x := set(t, model{40, 6, 22})
	x.Tick(0)
	has(t, "P16.1", x, model{41, 7, 23})
	if x.Dot(7) != 0 {
		t.Errorf("P16.1: Dot(7): %d", x.Dot(7))
	}
	x.Tick(0)
	has(t, "P16.1", x, model{42, 8, 255})
	x.Put(159)
	x.Tick(0)
	has(t, "P16.1", x, model{0, 0, 9})
	x.Tick(0)
	has(t, "P16.1", x, model{1, 1, 10})
}

// A start that comes soon behind another one, and one that comes later.
func TestStartBehindStart(t *testing.T) {
	for gap := 1; gap <= 300; gap++ {
		x := sprite.New()
		x.Put(159)
		x.Tick(5)
		for i := range gap - 1 {
			x.Put(100) // no start lies near
			x.Tick(5)
			has(t, "P16.1", x, model{101, min(i+1, 255), 255})
		}
		x.Put(159)
		x.Tick(5)
		has(t, "P16.1", x, model{0, 0, min(gap, 255)})
		x.Put(159)
		x.Tick(5)
		has(t, "P16.1", x, model{0, 0, 1})
	}
}

func TestPut(t *testing.T) {
	for _, ages := range [][2]int{{255, 255}, {3, 60}, {0, 1}, {90, 255}} {
		for n := range 160 {
			x := set(t, model{77, ages[0], ages[1]})
			if e := x.Put(n); e != api.OK {
				t.Fatalf("P16.1: Put(%d): %d", n, e)
			}
			has(t, "P16.1", x, model{n, ages[0], ages[1]})
		}
		x := set(t, model{77, ages[0], ages[1]})
		for _, n := range noCounts {
			if e := x.Put(n); e != api.ErrRange {
				t.Errorf("P16.1: Put(%d): %d", n, e)
			}
			has(t, "R2", x, model{77, ages[0], ages[1]})
		}
	}
}

// A thing that is put at a start has none; the next tick goes on from there.
func TestPutIsNoStart(t *testing.T) {
	for _, n := range []int{0, 16, 32, 64} {
		for copies := range uint8(8) {
			x := sprite.New()
			x.Put(n)
			x.Tick(copies)
			has(t, "P16.1", x, model{n + 1, 255, 255})
		}
	}
}

func TestDotByEachLead(t *testing.T) {
	for _, x := range []struct {
		m    model
		dots [8]int // by the leads 0 to 7
	}{
		{model{0, 0, 255}, [8]int{0, 254, 253, 252, 251, 250, 249, 248}},
		{model{0, 0, 1}, [8]int{0, 0, -1, -1, -1, -1, -1, -1}},
		{model{0, 2, 4}, [8]int{2, 1, 0, 1, 0, -1, -1, -1}},
		{model{0, 6, 7}, [8]int{6, 5, 4, 3, 2, 1, 0, 0}},
		{model{0, 7, 8}, [8]int{7, 6, 5, 4, 3, 2, 1, 0}},
		{model{0, 8, 255}, [8]int{8, 7, 6, 5, 4, 3, 2, 1}},
		{model{0, 255, 255}, [8]int{255, 254, 253, 252, 251, 250, 249, 248}},
	} {
		y := set(t, x.m)
		for lead, want := range x.dots {
			if got := y.Dot(lead); got != want {
				t.Errorf("P16.1: of %v Dot(%d) is %d, not %d", x.m, lead, got, want)
			}
		}
		for _, lead := range []int{-1, -7, -8, -1000, math.MinInt} {
			if got := y.Dot(lead); got != x.dots[0] {
				t.Errorf("P16.1: of %v Dot(%d) is %d, not %d", x.m, lead, got, x.dots[0])
			}
		}
		for _, lead := range []int{8, 9, 15, 256, math.MaxInt} {
			if got := y.Dot(lead); got != x.dots[7] {
				t.Errorf("P16.1: of %v Dot(%d) is %d, not %d", x.m, lead, got, x.dots[7])
			}
		}
		has(t, "P16.1", y, x.m)
	}
}

func TestSetTakesAllThatCanBe(t *testing.T) {
	x := sprite.New()
	for younger, elder := range eachAges {
		for _, n := range []int{0, 1, 80, 159} {
			m := model{n, younger, elder}
			if e := x.Set(m.words()); e != api.OK {
				t.Fatalf("P16.2: Set(%v): %d", m, e)
			}
			if x.Words() != m.words() {
				t.Fatalf("P16.2: set %v: it has %v", m, x.Words())
			}
		}
	}
}

func TestSetRefuses(t *testing.T) {
	good := model{50, 3, 19}
	x := set(t, good)
	wrong := [][3]int{}
	for _, n := range noCounts {
		wrong = append(wrong, [3]int{n, 4, 20}, [3]int{n, 255, 255}, [3]int{n, 4, 4})
	}
	for younger := range 256 { // all elder ages that are not greater, or not 255
		for elder := range 256 {
			if younger < 8 && elder <= younger || younger >= 8 && elder != 255 {
				wrong = append(wrong, [3]int{1, younger, elder})
			}
		}
	}
	for _, age := range []int{-1, 256, 511, math.MinInt, math.MaxInt} {
		wrong = append(wrong, [3]int{1, age, 255}, [3]int{1, age, age}, [3]int{1, 0, age}, [3]int{1, 7, age}, [3]int{1, 8, age}, [3]int{1, 255, age})
	}
	wrong = append(wrong, [3]int{1, -2, -1}, [3]int{1, 254, 256}, [3]int{})
	for _, w := range wrong {
		if e := x.Set(w); e != api.ErrRange {
			t.Errorf("P16.2: Set(%v): %d", w, e)
		}
		has(t, "R2", x, good)
	}
}

// The words that a thing has make another one that goes on as it does.
func TestWordsFromOneSetInAnother(t *testing.T) {
	x, y := sprite.New(), sprite.New()
	x.Put(150)
	for k := range 700 {
		if k%93 == 7 {
			x.Put(10) // six ticks ahead of a start
		}
		if e := y.Set(x.Words()); e != api.OK {
			t.Fatalf("P16.2: Set(%v): %d", x.Words(), e)
		}
		z := x.Copy()
		for range 30 {
			if y.Words() != z.Words() {
				t.Fatalf("P16.2: behind %d ticks: %v, not %v", k, y.Words(), z.Words())
			}
			y.Tick(3)
			z.Tick(3)
		}
		x.Tick(3)
	}
}

// Neither a thing nor its copy goes on with the other one.
func TestCopy(t *testing.T) {
	m := model{9, 5, 40}
	x := set(t, m)
	y := x.Copy()
	has(t, "P16.2", y, m)
	ticks(y, 1, 7)
	has(t, "P16.2", x, m)
	has(t, "P16.2", y, model{16, 0, 12})
	z := x.Copy()
	x.Put(100)
	has(t, "P16.2", z, m)
	x.Set([3]int{1, 2, 3})
	has(t, "P16.2", z, m)
	z.Set([3]int{159, 255, 255})
	has(t, "P16.2", x, model{1, 2, 3})
	if x.Copy() == x {
		t.Error("R4: a copy is the thing itself")
	}
}

func Test160Ticks(t *testing.T) {
	for copies := range 256 {
		for _, first := range []int{0, 1, 15, 16, 31, 32, 63, 64, 100, 158, 159} {
			x := sprite.New()
			x.Put(first)
			var at []int
			for range 160 {
				x.Tick(uint8(copies))
				if x.Words()[1] == 0 {
					at = append(at, x.Count())
				}
			}
			slices.Sort(at)
			if x.Count() != first || !slices.Equal(at, starts[copies%8]) {
				t.Errorf("P16.3: copies %d: from %d to %d, starts at %v", copies, first, x.Count(), at)
			}
		}
	}
}

func TestNilThing(t *testing.T) {
	var x *sprite.Thing
	x.Tick(3)
	if x.Count() != 0 || x.Words() != [3]int{} || x.Copy() != nil {
		t.Error("P16.2: a nil thing has something")
	}
	for _, n := range []int{0, 5, 159, 160, -1} {
		if x.Put(n) != api.ErrArg || x.Dot(n) != -1 {
			t.Errorf("P16.2: nil: Put(%d): %d, Dot: %d", n, x.Put(n), x.Dot(n))
		}
	}
	for _, w := range [][3]int{{}, {1, 3, 5}, {160, 0, 0}} {
		if e := x.Set(w); e != api.ErrArg {
			t.Errorf("P16.2: Set(%v) of nil: %d", w, e)
		}
	}
}
