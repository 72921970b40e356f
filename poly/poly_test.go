package poly_test

import (
	"math"
	"slices"
	"testing"

	"woodgrain/api"
	"woodgrain/poly"
)

type ownByte uint8

// after is a step as the chapter words it, bit by bit; it is the model that
// the polys are held against.
func after(size, tap, state int) (next, out int) {
	var bits []int
	for i := range size {
		bits = append(bits, state>>i&1)
	}
	top := 0
	if bits[0] == bits[tap] {
		top = 1
	}
	for i, b := range append(bits[1:], top) {
		next |= b << i
	}
	return next, state & 1
}

// sizesAndTaps are all the polys of words of so many bits.
func sizesAndTaps(most int, do func(size, tap int)) {
	for size := 2; size <= most; size++ {
		for tap := 1; tap < size; tap++ {
			do(size, tap)
		}
	}
}

func TestNewTakesSizesOfItsWord(t *testing.T) {
	sizesAndTaps(8, func(size, tap int) {
		if p := poly.New[uint8](size, tap); p == nil || p.State() != 0 {
			t.Errorf("P1.1: uint8, %d, %d", size, tap)
		}
		if p := poly.New[ownByte](size, tap); p == nil || p.State() != 0 {
			t.Errorf("P1.1: ownByte, %d, %d", size, tap)
		}
	})
	sizesAndTaps(16, func(size, tap int) {
		if p := poly.New[uint16](size, tap); p == nil || p.State() != 0 {
			t.Errorf("P1.1: uint16, %d, %d", size, tap)
		}
	})
}

func TestNewRefuses(t *testing.T) {
	for _, x := range [][2]int{
		{1, 1}, {1, 0}, {0, 0}, {0, 1}, {-1, 1}, {-4, -5}, {4, 0}, {4, -1}, {4, 4}, {4, 5}, {2, 2}, {8, 8},
		{17, 1}, {256 + 4, 1}, {4, 256 + 1}, {65536 + 4, 1}, {4, math.MinInt}, {math.MinInt, 1}, {math.MaxInt, 1}, {math.MaxInt, math.MaxInt},
	} {
		if poly.New[uint8](x[0], x[1]) != nil || poly.New[uint16](x[0], x[1]) != nil {
			t.Errorf("P1.1: %v is a poly", x)
		}
	}
	if poly.New[uint8](9, 1) != nil || poly.New[ownByte](9, 1) != nil || poly.New[uint16](16, 16) != nil {
		t.Error("P1.1: a size or tap too great by one is a poly")
	}
}

func TestStepExample(t *testing.T) {
	p := poly.New[uint8](4, 1)
	states := []uint8{0, 8, 12, 14, 7, 11}
	bits := []uint8{0, 0, 0, 0, 1, 1}
	for i := range states {
		if s := p.State(); s != states[i] {
			t.Errorf("P1.1: state %d is %d", i, s)
		}
		if b := p.Step(); b != bits[i] {
			t.Errorf("P1.1: bit %d is %d", i, b)
		}
	}
}

// checkEveryStep steps a poly once from each of its states.
func checkEveryStep[T poly.Word](t *testing.T, size, tap int) {
	p := poly.New[T](size, tap)
	seen := make([]bool, 1<<size)
	for s := range 1 << size {
		if e := p.Set(T(s)); e != api.OK || p.State() != T(s) {
			t.Fatalf("P1.1: (%d, %d): Set(%d) %d, state %d", size, tap, s, e, p.State())
		}
		next, out := after(size, tap, s)
		if b := p.Step(); int(b) != out || int(p.State()) != next {
			t.Fatalf("P1.1: (%d, %d) from %d: bit %d, state %d", size, tap, s, b, p.State())
		}
		if seen[p.State()] {
			t.Fatalf("P1.4: (%d, %d): %d comes behind two states", size, tap, p.State())
		}
		seen[p.State()] = true
	}
}

func TestStepOfEveryPoly(t *testing.T) {
	sizesAndTaps(8, func(size, tap int) { checkEveryStep[uint8](t, size, tap) })
	sizesAndTaps(11, func(size, tap int) { checkEveryStep[uint16](t, size, tap) })
	checkEveryStep[ownByte](t, 8, 7)
	checkEveryStep[uint16](t, 16, 1)
	checkEveryStep[uint16](t, 16, 15)
}

func TestSetRefusesMoreBits(t *testing.T) {
	for size := 2; size < 16; size++ {
		p := poly.New[uint16](size, 1)
		p.Set(1)
		for _, s := range []uint16{1 << size, 1<<size + 1, 1 << 15, math.MaxUint16} {
			if e := p.Set(s); e != api.ErrRange || p.State() != 1 {
				t.Errorf("P1.1: size %d: Set(%d): %d, state %d", size, s, e, p.State())
			}
		}
	}
	p := poly.New[uint8](6, 1)
	if p.Set(64) != api.ErrRange || p.Set(255) != api.ErrRange || p.State() != 0 {
		t.Error("P1.1: a poly of 6 bits took more")
	}
	if poly.New[uint8](8, 1).Set(255) != api.OK || poly.New[uint16](16, 1).Set(65535) != api.OK {
		t.Error("P1.1: all bits of a word are refused")
	}
}

func TestBitsAreThoseThatFallOut(t *testing.T) {
	for _, n := range []int{0, 1, 6, 15, 100, 1000, api.MaxRun} {
		p := poly.New[uint16](9, 4)
		p.Set(0x155)
		told := p.Bits(n)
		if len(told) != n || p.State() != 0x155 {
			t.Fatalf("P1.2: Bits(%d): %d bits, state %d", n, len(told), p.State())
		}
		for i, b := range told {
			if p.Step() != b {
				t.Fatalf("P1.2: Bits(%d): bit %d is %d", n, i, b)
			}
		}
	}
	if b := poly.New[uint8](4, 1).Bits(6); !slices.Equal(b, []uint8{0, 0, 0, 0, 1, 1}) {
		t.Errorf("P1.2: %v", b)
	}
}

func TestBitsOutOfRange(t *testing.T) {
	p := poly.New[uint8](4, 1)
	for _, n := range []int{-1, math.MinInt, api.MaxRun + 1, math.MaxInt} {
		if b := p.Bits(n); len(b) != 0 || p.State() != 0 {
			t.Errorf("P1.2: Bits(%d): %d bits", n, len(b))
		}
	}
}

func TestBitsAreNewMemory(t *testing.T) {
	p := poly.New[uint8](4, 1)
	first := p.Bits(6)
	clear(first[:cap(first)])
	if b := p.Bits(6); !slices.Equal(b, []uint8{0, 0, 0, 0, 1, 1}) {
		t.Errorf("R4: %v", b)
	}
}

// checkRounds holds Period at each state, and Place of each, against the model.
func checkRounds(t *testing.T, size, tap int) {
	p := poly.New[uint8](size, tap)
	steps := map[int]int{}
	for s := 0; len(steps) == 0 || s != 0; s, _ = after(size, tap, s) {
		steps[s] = len(steps)
	}
	for s := range 1 << size {
		period := 0
		for at := s; period == 0 || at != s; period++ {
			at, _ = after(size, tap, at)
		}
		p.Set(uint8(s))
		if n := p.Period(); n != period || p.State() != uint8(s) {
			t.Fatalf("P1.2: (%d, %d) at %d: period %d, state %d", size, tap, s, n, p.State())
		}
		want, comes := steps[s]
		for _, at := range []int{s, 0, 1<<size - 1} { // Place counts from 0 on, wherever the poly is
			p.Set(uint8(at))
			if n, ok := p.Place(uint8(s)); n != want || ok != comes || p.State() != uint8(at) {
				t.Fatalf("P1.2: (%d, %d): place of %d: %d, %v, state %d", size, tap, s, n, ok, p.State())
			}
		}
	}
}

func TestPeriodAndPlace(t *testing.T) {
	sizesAndTaps(8, func(size, tap int) { checkRounds(t, size, tap) })
}

// The widest word's rounds are gone over by steps of the poly itself.
func TestPeriodAndPlaceOfTheWidest(t *testing.T) {
	for tap := 1; tap < 16; tap++ {
		p := poly.New[uint16](16, tap)
		p.Step()
		far, steps := p.State(), 1
		for ; p.State() != 0; steps++ {
			far = p.State()
			p.Step()
		}
		if n := p.Period(); n != steps {
			t.Errorf("P1.2: (16, %d): period %d, not %d", tap, n, steps)
		}
		if n, ok := p.Place(far); n != steps-1 || !ok {
			t.Errorf("P1.2: (16, %d): place of %d: %d, %v", tap, far, n, ok)
		}
	}
}

func TestPlaceOfStatesThatNeverCome(t *testing.T) {
	p := poly.New[uint8](4, 1)
	for _, s := range []uint8{15, 16, 17, 255} {
		if n, ok := p.Place(s); n != 0 || ok {
			t.Errorf("P1.2: place of %d: %d, %v", s, n, ok)
		}
	}
	if p.Set(15); p.Period() != 1 {
		t.Error("P1.2: 15 comes again at once")
	}
	if n, ok := p.Place(7); n != 4 || !ok {
		t.Errorf("P1.2: place of 7: %d, %v", n, ok)
	}
}

func checkNil[T poly.Word](t *testing.T) {
	var p *poly.Poly[T]
	if p.Step() != 0 || p.State() != 0 || p.Set(0) != api.ErrArg || p.Set(^T(0)) != api.ErrArg || p.Period() != 0 {
		t.Error("P1.3: nil")
	}
	for _, n := range []int{-1, 0, 1, api.MaxRun + 1} {
		if len(p.Bits(n)) != 0 {
			t.Error("P1.3: bits of nil")
		}
	}
	if n, ok := p.Place(0); n != 0 || ok {
		t.Error("P1.3: a place in nil")
	}
}

func TestNil(t *testing.T) {
	checkNil[uint8](t)
	checkNil[uint16](t)
	checkNil[ownByte](t)
}

func TestPolysOfTheChipsComeRound(t *testing.T) {
	for _, x := range [][3]int{{4, 1, 15}, {5, 2, 31}, {6, 1, 63}, {9, 4, 511}} {
		p := poly.New[uint16](x[0], x[1])
		if n := p.Period(); n != x[2] {
			t.Errorf("P1.4: %v: period %d", x, n)
		}
		for i := 1; i <= x[2]; i++ {
			if p.Step(); (p.State() == 0) != (i == x[2]) {
				t.Errorf("P1.4: %v: state %d behind %d steps", x, p.State(), i)
			}
		}
	}
	if n := poly.New[uint8](6, 1).Period(); n != 63 {
		t.Errorf("P1.4: as bytes: %d", n)
	}
}
