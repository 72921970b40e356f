package motion_test

import (
	"math"
	"testing"

	"woodgrain/motion"
)

func TestShiftExamples(t *testing.T) {
	for _, x := range [][3]int{{9, 7, 7}, {9, 8, -8}, {9, 0, 0}, {225, 0, 8}, {0, 7, 15}, {100, 7, 0}} {
		if n := motion.Shift(x[0], uint8(x[1])); n != x[2] {
			t.Errorf("P17.3: Shift(%d, %d): %d, not %d", x[0], x[1], n, x[2])
		}
	}
}

// TestShiftTable: the integers by strobe, for the nibbles 0 to 15, worked out by hand.
func TestShiftTable(t *testing.T) {
	table := map[int][16]int{
		-1:  {},
		0:   {8, 9, 10, 11, 12, 13, 14, 15, 0, 1, 2, 3, 4, 5, 6, 7},
		1:   {0, 1, 2, 3, 4, 5, 6, 7, -8, -7, -6, -5, -4, -3, -2, -1},
		12:  {0, 1, 2, 3, 4, 5, 6, 7, -8, -7, -6, -5, -4, -3, -2, -1},
		13:  {0, 1, 2, 3, 4, 5, 6, 7, -8, -7, -6, -5, -4, -3, -2, -1},
		14:  {0, 1, 2, 3, 4, 5, 6, 6, -8, -7, -6, -5, -4, -3, -2, -1},
		17:  {0, 1, 2, 3, 4, 5, 6, 6, -8, -7, -6, -5, -4, -3, -2, -1},
		18:  {0, 1, 2, 3, 4, 5, 5, 5, -8, -7, -6, -5, -4, -3, -2, -1},
		64:  {-6, -6, -6, -6, -6, -6, -6, -6, -8, -7, -6, -6, -6, -6, -6, -6},
		65:  {-6, -6, -6, -6, -6, -6, -6, -6, -8, -7, -6, -6, -6, -6, -6, -6},
		66:  {-7, -7, -7, -7, -7, -7, -7, -7, -8, -7, -7, -7, -7, -7, -7, -7},
		67:  {-7, -7, -7, -7, -7, -7, -7, -7, -8, -7, -7, -7, -7, -7, -7, -7},
		68:  {-7, -7, -7, -7, -7, -7, -7, -7, -8, -7, -7, -7, -7, -7, -7, -7},
		69:  {-6, -6, -6, -6, -6, -6, -6, -6, -7, -6, -6, -6, -6, -6, -6, -6},
		70:  {-6, -6, -6, -6, -6, -6, -6, -6, -6, -6, -6, -6, -6, -6, -6, -6},
		71:  {-5, -5, -5, -5, -5, -5, -5, -5, -5, -5, -5, -5, -5, -5, -5, -5},
		72:  {-4, -4, -4, -4, -4, -4, -4, -4, -4, -4, -4, -4, -4, -4, -4, -4},
		73:  {-3, -3, -3, -3, -3, -3, -3, -3, -3, -3, -3, -3, -3, -3, -3, -3},
		74:  {-2, -2, -2, -2, -2, -2, -2, -2, -2, -2, -2, -2, -2, -2, -2, -2},
		75:  {-1, -1, -1, -1, -1, -1, -1, -1, -1, -1, -1, -1, -1, -1, -1, -1},
		76:  {},
		165: {0, 0, 0, 0, 0, 0, 0, 0, 0, 0, 0, 0, 0, 0, 0, 0},
		166: {0, 0, 0, 0, 0, 0, 0, 1, 0, 0, 0, 0, 0, 0, 0, 0},
		169: {0, 0, 0, 0, 0, 0, 0, 1, 0, 0, 0, 0, 0, 0, 0, 0},
		170: {0, 0, 0, 0, 0, 0, 1, 2, 0, 0, 0, 0, 0, 0, 0, 0},
		225: {8, 9, 10, 11, 12, 13, 14, 15, 0, 1, 2, 3, 4, 5, 6, 7},
		227: {8, 9, 10, 11, 12, 13, 14, 15, 0, 1, 2, 3, 4, 5, 6, 7},
		228: {},
	}
	for strobe, row := range table {
		for nibble := range 256 {
			if n := motion.Shift(strobe, uint8(nibble)); n != row[nibble%16] {
				t.Errorf("P17.3: Shift(%d, %d): %d, not %d", strobe, nibble, n, row[nibble%16])
			}
		}
	}
}

// A thing that goes over two lines is ahead by what Shift tells.
func TestShiftIsWhatAStrobeDoes(t *testing.T) {
	for nibble := range 256 {
		still := ahead(-1, uint8(nibble))
		for strobe := range 228 {
			n := ahead(strobe, uint8(nibble)) - still
			if got := motion.Shift(strobe, uint8(nibble)); got != n {
				t.Fatalf("P17.3: Shift(%d, %d): %d, but a thing comes to be %d ahead", strobe, nibble, got, n)
			}
		}
	}
}

func TestShiftOfNoClock(t *testing.T) {
	for _, strobe := range []int{-1, -3, -219, -228, 228, 229, 237, 256, 456, math.MinInt, math.MaxInt, math.MaxInt - 3} {
		for nibble := range 256 {
			if n := motion.Shift(strobe, uint8(nibble)); n != 0 {
				t.Errorf("P17.3: Shift(%d, %d): %d", strobe, nibble, n)
			}
		}
	}
}

func TestShiftIsTheNibble(t *testing.T) {
	for strobe := 1; strobe <= 12; strobe++ {
		for nibble := range 16 {
			want := nibble
			if nibble > 7 {
				want -= 16
			}
			if n := motion.Shift(strobe, uint8(nibble)); n != want {
				t.Errorf("P17.4: Shift(%d, %d): %d, not %d", strobe, nibble, n, want)
			}
		}
	}
}
