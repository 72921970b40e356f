package tia_test

import (
	"testing"

	"woodgrain/motion"
	"woodgrain/tia"
)

// ahead tells by how much the things of a chip are ahead of those of another
// one, behind some lines.
func ahead(x, y *tia.Tia) [5]int {
	steps(x, 3*228)
	steps(y, 3*228)
	a, b := x.Counts(), y.Counts()
	for n := range a {
		a[n] = (a[n] - b[n] + 160) % 160
	}
	return a
}

// A strobe ahead of each clock, with all nibbles.
func TestStrobes(t *testing.T) {
	for clock := range 228 {
		for first := 0; first < 16; first += 5 {
			x := tia.New(clock)
			store(x, 0x11, 0, 0x03, 0)
			steps(x, 228+clock)
			var want [5]int
			for n := range want {
				nibble := (first + n) % 16
				x.Store(uint16(0x20+n), uint8(nibble<<4|clock&15))
				want[n] = (motion.Shift(clock, uint8(nibble)) + 160) % 160
			}
			y := x.Copy()
			x.Store(0x2A, 0)
			if got := ahead(x, y); got != want {
				t.Errorf("P17.3, P21.1: a strobe ahead of clock %d, nibbles from %X on: %v, not %v", clock, first, got, want)
			}
		}
	}
}

func TestStrobesByTheTable(t *testing.T) {
	for _, c := range [][3]int{
		{9, 7, 7}, {9, 8, -8}, {9, 0, 0}, {1, 15, -1}, {12, 1, 1},
		{225, 0, 8}, {0, 7, 15}, {0, 8, 0}, {100, 7, 0}, {76, 7, 0}, {75, 8, -1}, {74, 8, -2}, {68, 8, -8},
	} {
		for n := range 5 {
			x := tia.New(c[0])
			x.Store(uint16(0x20+n), uint8(c[1]<<4))
			y := x.Copy()
			x.Store(0x2A, 0)
			if got := ahead(x, y)[n]; got != (c[2]+160)%160 {
				t.Errorf("P17.3, P21.1: a strobe ahead of clock %d, nibble %d: thing %d is %d ahead, not %d", c[0], c[1], n, got, c[2])
			}
		}
	}
}

// Which clocks of a line are dark, with a strobe ahead of one of them.
func TestComb(t *testing.T) {
	for strobe := range 228 {
		x := tia.New(0)
		x.Store(0x09, 0x1E)
		for range 2 {
			for clock := range 228 {
				if clock == strobe {
					x.Store(0x2A, 0)
				}
				late := strobe >= 1 && strobe <= clock
				dark := clock < 68 || late && clock < 76
				if d := x.Step(); d.Blank != dark || (d.Pixel == 0) != dark {
					t.Fatalf("P21.1: a strobe ahead of clock %d: clock %d tells %v", strobe, clock, d)
				}
			}
		}
		for clock, d := range line(x) { // the next line is not late any more
			if d.Blank != (clock < 68) {
				t.Fatalf("P21.1: a strobe ahead of clock %d: on the next line clock %d tells %v", strobe, clock, d)
			}
		}
	}
}

// A nibble that is written while a motion is under way counts from there on.
func TestNibbleUnderWay(t *testing.T) {
	for _, c := range [][2]int{{16, 0}, {40, 0}, {44, 8}, {60, 8}} { // behind count 8 it moves on to the end
		x := tia.New(9)
		store(x, 0x20, 0x70)
		y := x.Copy()
		x.Store(0x2A, 0)
		for x.Step().Clock != c[0] {
		}
		steps(y, c[0]-9+1)
		x.Store(0x2B, 0)
		if got := ahead(x, y)[0]; got != c[1] {
			t.Errorf("P21.1: HMCLR behind clock %d: %d ahead", c[0], got)
		}
	}
}
