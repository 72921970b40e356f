package alu_test

import (
	"testing"

	"woodgrain/alu"
)

// answer is what a call should answer: a byte, and p behind it.
type answer struct{ v, q uint8 }

// holdAll holds a call of two bytes and p against its model, at all of them.
func holdAll(t *testing.T, what string, call func(a, m, p uint8) (v, q uint8), model func(a, m int, p uint8) (int, flags)) {
	t.Helper()
	for a := range 256 {
		for m := range 256 {
			for p := range 256 {
				v, q := call(uint8(a), uint8(m), uint8(p))
				wantV, f := model(a, m, uint8(p))
				if want := f.on(uint8(p)); int(v) != wantV || q != want {
					t.Fatalf("%s(%x, %x, %x): %x, %x, not %x, %x", what, a, m, p, v, q, wantV, want)
				}
			}
		}
	}
}

// told are a call's arguments, and what it should answer.
type told struct {
	a, m, p uint8
	want    answer
}

func holdTold(t *testing.T, what string, call func(a, m, p uint8) (v, q uint8), all []told) {
	t.Helper()
	for _, x := range all {
		if v, q := call(x.a, x.m, x.p); (answer{v, q}) != x.want {
			t.Errorf("%s(%x, %x, %x): %x, %x, not %x, %x", what, x.a, x.m, x.p, v, q, x.want.v, x.want.q)
		}
	}
}

// digitsOf is a number below 100 as two decimal digits in a byte.
func digitsOf(n int) uint8 { return uint8(n/10*16 + n%10) }

func TestMark(t *testing.T) {
	for p := range 256 {
		for v := range 256 {
			want := flagsOf(uint8(p)).marked(v).on(uint8(p))
			if q := alu.Mark(uint8(p), uint8(v)); q != want {
				t.Fatalf("P9.1: Mark(%x, %x): %x, not %x", p, v, q, want)
			}
		}
	}
	for _, x := range [][3]uint8{{0, 0, 2}, {0, 1, 0}, {0, 0x7F, 0}, {0, 0x80, 0x80}, {0xFF, 0, 0x7F}, {0xFF, 1, 0x7D}, {0xFF, 0xFF, 0xFD}} {
		if q := alu.Mark(x[0], x[1]); q != x[2] {
			t.Errorf("P9.1: Mark(%x, %x): %x, not %x", x[0], x[1], q, x[2])
		}
	}
}

func TestAddEverywhere(t *testing.T) {
	t.Parallel()
	holdAll(t, "P9.1: Add", alu.Add, func(a, m int, p uint8) (int, flags) {
		c := number(flagsOf(p).c)
		if isDecimal(p) {
			return modelDecimalSum(a, m, c)
		}
		return modelBinarySum(a, m, c)
	})
}

func TestAddTold(t *testing.T) {
	holdTold(t, "P9.1: Add", alu.Add, []told{
		// Binary, with and without C; each flag alone, and those that stay.
		{0x50, 0x50, 0x00, answer{0xA0, 0xC0}},
		{0x01, 0x01, 0x00, answer{0x02, 0x00}},
		{0x01, 0x01, 0x01, answer{0x03, 0x00}},
		{0xFF, 0x01, 0x00, answer{0x00, 0x03}},
		{0xFF, 0x00, 0x01, answer{0x00, 0x03}},
		{0xFF, 0xFF, 0x01, answer{0xFF, 0x81}},
		{0x7F, 0x00, 0x01, answer{0x80, 0xC0}},
		{0x80, 0x80, 0x00, answer{0x00, 0x43}},
		{0x80, 0xFF, 0x00, answer{0x7F, 0x41}},
		{0x01, 0x01, 0xF7, answer{0x03, 0x34}},
		// Decimal, of digits.
		{0x58, 0x46, 0x09, answer{0x05, 0xC9}},
		{0x04, 0x05, 0x08, answer{0x09, 0x08}},
		{0x04, 0x05, 0x09, answer{0x10, 0x08}},
		{0x05, 0x05, 0x08, answer{0x10, 0x08}},
		{0x99, 0x00, 0x08, answer{0x99, 0x88}},
		{0x99, 0x01, 0x08, answer{0x00, 0x89}}, // 0, and Z is not set
		{0x80, 0x80, 0x08, answer{0x60, 0x4B}}, // not 0, and Z is set
		{0x79, 0x00, 0x09, answer{0x80, 0xC8}},
		{0x00, 0x00, 0xFF, answer{0x01, 0x3C}},
		{0x00, 0x00, 0xFE, answer{0x00, 0x3E}},
		// Decimal, of bytes that are no digits.
		{0x0F, 0x0F, 0x09, answer{0x15, 0x08}},
		{0xFF, 0xFF, 0x09, answer{0x55, 0x89}},
		{0x9A, 0x00, 0x08, answer{0x00, 0x89}},
		{0xA0, 0x00, 0x08, answer{0x00, 0x89}},
		{0x0A, 0x00, 0x08, answer{0x10, 0x08}},
	})
}

func TestAddDigits(t *testing.T) {
	for x := range 100 {
		for y := range 100 {
			for c := range 2 {
				v, q := alu.Add(digitsOf(x), digitsOf(y), uint8(8+c))
				if sum := x + y + c; v != digitsOf(sum%100) || flagsOf(q).c != (sum > 99) {
					t.Fatalf("P9.1: %d and %d and %d: %x, %x", x, y, c, v, q)
				}
			}
		}
	}
}

func TestSubEverywhere(t *testing.T) {
	t.Parallel()
	holdAll(t, "P9.1: Sub", alu.Sub, func(a, m int, p uint8) (int, flags) {
		c := number(flagsOf(p).c)
		if isDecimal(p) {
			return modelDecimalDifference(a, m, c)
		}
		return modelBinaryDifference(a, m, c)
	})
}

func TestSubTold(t *testing.T) {
	holdTold(t, "P9.1: Sub", alu.Sub, []told{
		// Binary.
		{0x05, 0x03, 0x01, answer{0x02, 0x01}},
		{0x05, 0x03, 0x00, answer{0x01, 0x01}},
		{0x05, 0x05, 0x01, answer{0x00, 0x03}},
		{0x05, 0x05, 0x00, answer{0xFF, 0x80}},
		{0x03, 0x05, 0x01, answer{0xFE, 0x80}},
		{0x80, 0x01, 0x01, answer{0x7F, 0x41}},
		{0x7F, 0xFF, 0x01, answer{0x80, 0xC0}},
		{0x00, 0xFF, 0x00, answer{0x00, 0x02}},
		{0x05, 0x03, 0xF7, answer{0x02, 0x35}},
		// Decimal, of digits.
		{0x12, 0x21, 0x09, answer{0x91, 0x88}},
		{0x00, 0x01, 0x09, answer{0x99, 0x88}},
		{0x00, 0x00, 0x08, answer{0x99, 0x88}},
		{0x00, 0x00, 0x09, answer{0x00, 0x0B}},
		{0x10, 0x01, 0x09, answer{0x09, 0x09}},
		{0x80, 0x01, 0x09, answer{0x79, 0x49}},
		{0x10, 0x01, 0xFF, answer{0x09, 0x3D}},
		// Decimal, of bytes that are no digits.
		{0x1F, 0x0A, 0x09, answer{0x15, 0x09}},
		{0x00, 0x0F, 0x09, answer{0x9B, 0x88}},
		{0x00, 0xFF, 0x08, answer{0xAA, 0x0A}},
	})
}

func TestSubDigits(t *testing.T) {
	for x := range 100 {
		for y := range 100 {
			for c := range 2 {
				v, q := alu.Sub(digitsOf(x), digitsOf(y), uint8(8+c))
				if d := x - y - (1 - c); v != digitsOf(modulo(d, 100)) || flagsOf(q).c != (d >= 0) {
					t.Fatalf("P9.1: %d less %d, C %d: %x, %x", x, y, c, v, q)
				}
			}
		}
	}
}

func TestCompare(t *testing.T) {
	t.Parallel()
	compare := func(a, m, p uint8) (v, q uint8) { return 0, alu.Compare(a, m, p) }
	holdAll(t, "P9.1: Compare", compare, func(a, m int, p uint8) (int, flags) {
		return 0, modelCompare(a, m, flagsOf(p))
	})
	holdTold(t, "P9.1: Compare", compare, []told{
		{0x03, 0x05, 0x00, answer{0, 0x80}},
		{0x05, 0x03, 0x00, answer{0, 0x01}},
		{0x05, 0x03, 0x01, answer{0, 0x01}},
		{0x00, 0xFF, 0x01, answer{0, 0x00}},
		{0xFF, 0x00, 0x00, answer{0, 0x81}},
		{0x80, 0x01, 0x08, answer{0, 0x09}}, // V and D count for nothing
		{0x05, 0x03, 0xFF, answer{0, 0x7D}},
		{0x03, 0x05, 0xFF, answer{0, 0xFC}},
	})
}

func TestCompareEqual(t *testing.T) {
	for a := range 256 {
		for _, x := range [][2]uint8{{0, 3}, {0xFF, 0x7F}} {
			if q := alu.Compare(uint8(a), uint8(a), x[0]); q != x[1] {
				t.Errorf("P9.1: Compare(%x, %x, %x): %x", a, a, x[0], q)
			}
		}
	}
}

func TestBit(t *testing.T) {
	t.Parallel()
	bit := func(a, m, p uint8) (v, q uint8) { return 0, alu.Bit(a, m, p) }
	holdAll(t, "P9.2: Bit", bit, func(a, m int, p uint8) (int, flags) {
		return 0, modelBit(a, m, flagsOf(p))
	})
	holdTold(t, "P9.2: Bit", bit, []told{
		{0x01, 0xC0, 0x00, answer{0, 0xC2}}, // no bit in common
		{0xC0, 0xC0, 0x00, answer{0, 0xC0}},
		{0xFF, 0x80, 0x00, answer{0, 0x80}},
		{0xFF, 0x40, 0x00, answer{0, 0x40}},
		{0xFF, 0x3F, 0xFF, answer{0, 0x3D}},
		{0xC0, 0x3F, 0x00, answer{0, 0x02}}, // N and V are m's
		{0x00, 0x00, 0xFF, answer{0, 0x3F}},
	})
}

// shift is Left or Right.
type shift struct {
	what  string
	call  func(m, p uint8, turn bool) (v, q uint8)
	model func(m int, turn bool, f flags) (int, flags)
}

func TestShiftsEverywhere(t *testing.T) {
	for _, s := range []shift{{"Left", alu.Left, modelLeft}, {"Right", alu.Right, modelRight}} {
		for _, turn := range []bool{false, true} {
			for m := range 256 {
				for p := range 256 {
					v, q := s.call(uint8(m), uint8(p), turn)
					wantV, f := s.model(m, turn, flagsOf(uint8(p)))
					if want := f.on(uint8(p)); int(v) != wantV || q != want {
						t.Fatalf("P9.2: %s(%x, %x, %v): %x, %x, not %x, %x", s.what, m, p, turn, v, q, wantV, want)
					}
				}
			}
		}
	}
}

func TestShiftsTold(t *testing.T) {
	for _, x := range []struct {
		m, p                    uint8
		left, leftTurned, right answer
		rightTurned             answer
	}{
		{0x01, 0x00, answer{0x02, 0x00}, answer{0x02, 0x00}, answer{0x00, 0x03}, answer{0x00, 0x03}},
		{0x01, 0x01, answer{0x02, 0x00}, answer{0x03, 0x00}, answer{0x00, 0x03}, answer{0x80, 0x81}},
		{0x80, 0x00, answer{0x00, 0x03}, answer{0x00, 0x03}, answer{0x40, 0x00}, answer{0x40, 0x00}},
		{0x80, 0x01, answer{0x00, 0x03}, answer{0x01, 0x01}, answer{0x40, 0x00}, answer{0xC0, 0x80}},
		{0x00, 0xFF, answer{0x00, 0x7E}, answer{0x01, 0x7C}, answer{0x00, 0x7E}, answer{0x80, 0xFC}},
		{0xFF, 0xFE, answer{0xFE, 0xFD}, answer{0xFE, 0xFD}, answer{0x7F, 0x7D}, answer{0x7F, 0x7D}},
		{0x40, 0x00, answer{0x80, 0x80}, answer{0x80, 0x80}, answer{0x20, 0x00}, answer{0x20, 0x00}},
	} {
		for _, y := range []struct {
			call func(m, p uint8, turn bool) (v, q uint8)
			turn bool
			want answer
		}{
			{alu.Left, false, x.left}, {alu.Left, true, x.leftTurned},
			{alu.Right, false, x.right}, {alu.Right, true, x.rightTurned},
		} {
			if v, q := y.call(x.m, x.p, y.turn); (answer{v, q}) != y.want {
				t.Errorf("P9.2: a shift of %x, %x, turn %v: %x, %x, not %x", x.m, x.p, y.turn, v, q, y.want)
			}
		}
	}
}

func TestOddEverywhere(t *testing.T) {
	t.Parallel()
	holdAll(t, "P9.3: Odd", alu.Odd, func(a, m int, p uint8) (int, flags) {
		c := number(flagsOf(p).c)
		if isDecimal(p) {
			return modelDecimalOdd(common(a, m), c)
		}
		return modelBinaryOdd(common(a, m), c)
	})
}

func TestOddTold(t *testing.T) {
	holdTold(t, "P9.3: Odd", alu.Odd, []told{
		// Without D.
		{0xFF, 0xC0, 0x00, answer{0x60, 0x01}},
		{0xC0, 0xFF, 0x00, answer{0x60, 0x01}},
		{0xFF, 0x80, 0x00, answer{0x40, 0x41}},
		{0xFF, 0x40, 0x00, answer{0x20, 0x40}},
		{0xFF, 0x00, 0x01, answer{0x80, 0x80}},
		{0xF0, 0x0F, 0x00, answer{0x00, 0x02}},
		{0xFF, 0x01, 0xF6, answer{0x00, 0x36}},
		{0xFF, 0xFF, 0xF7, answer{0xFF, 0xB5}},
		{0xFF, 0x55, 0x00, answer{0x2A, 0x40}}, // no digit is mended
		// With D: the lower digit at 4, 5, 6 and beyond.
		{0xFF, 0x04, 0x08, answer{0x02, 0x08}},
		{0xFF, 0x05, 0x08, answer{0x08, 0x08}},
		{0xFF, 0x06, 0x08, answer{0x09, 0x08}},
		{0xFF, 0x0F, 0x08, answer{0x0D, 0x08}},
		{0xFF, 0x1F, 0x08, answer{0x05, 0x08}}, // modulo 16: the upper digit stays
		{0xFF, 0x15, 0x08, answer{0x00, 0x08}}, // Z is asked ahead of it
		// The upper one likewise.
		{0xFF, 0x40, 0x08, answer{0x20, 0x48}},
		{0xFF, 0x40, 0x09, answer{0xA0, 0xC8}}, // C was set
		{0xFF, 0x50, 0x08, answer{0x88, 0x49}},
		{0xFF, 0x60, 0x08, answer{0x90, 0x49}},
		{0xFF, 0xFF, 0x09, answer{0x55, 0x89}},
		// N is p's C.
		{0xFF, 0x00, 0x08, answer{0x00, 0x0A}},
		{0xFF, 0x01, 0x08, answer{0x00, 0x0A}},
		{0xFF, 0x00, 0x09, answer{0x80, 0x88}},
		{0x0F, 0xF0, 0xFE, answer{0x00, 0x3E}},
		{0xFF, 0x05, 0xFF, answer{0x88, 0xBC}},
	})
}
