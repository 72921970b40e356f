package field_test

import (
	"math"
	"testing"

	"woodgrain/field"
)

// dotsOf are the dots by their bits.
func dotsOf(n int) (dots [6]bool) {
	for k := range dots {
		dots[k] = n>>k%2 == 1
	}
	return dots
}

// farNumbers are numbers far from all that count.
var farNumbers = []int{math.MinInt, math.MinInt + 1, -1 << 32, -256, 256, 1 << 16, 1 << 32, 1<<32 + 3, math.MaxInt - 1, math.MaxInt}

// order is which bit of which register stands where on the left half.
const order = "0:4 0:5 0:6 0:7 1:7 1:6 1:5 1:4 1:3 1:2 1:1 1:0 2:0 2:1 2:2 2:3 2:4 2:5 2:6 2:7 "

// place tells the register and the bit that a pixel shows.
func place(x int, mirrored bool) (register, bit int) {
	n := x / 4
	if n >= 20 && mirrored {
		n = 39 - n
	}
	at := n % 20 * 4
	return int(order[at] - '0'), int(order[at+2] - '0')
}

func TestNumbers(t *testing.T) {
	if got := [...]int{field.P0, field.P1, field.M0, field.M1, field.BL, field.PF}; got != [...]int{0, 1, 2, 3, 4, 5} {
		t.Errorf("P18.1: the dots' numbers are %v", got)
	}
}

func TestLitExample(t *testing.T) {
	for x := range 160 {
		if got, want := field.Lit([3]uint8{0x10, 0, 0}, 0, x), x < 4 || 80 <= x && x < 84; got != want {
			t.Errorf("P18.1: pixel %d: %v", x, got)
		}
		if got, want := field.Lit([3]uint8{0x10, 0, 0}, 1, x), x < 4 || x >= 156; got != want {
			t.Errorf("P18.1: pixel %d, mirrored: %v", x, got)
		}
	}
}

// Each bit by itself, and all but it: which pixels does it light?
func TestLitOfEachBit(t *testing.T) {
	for register := range 3 {
		for bit := range 8 {
			one := [3]uint8{}
			one[register] = 1 << bit
			rest := [3]uint8{^one[0], ^one[1], ^one[2]}
			for control := range 256 {
				for x := range 160 {
					r, b := place(x, control&1 == 1)
					want := r == register && b == bit
					if field.Lit(one, uint8(control), x) != want || field.Lit(rest, uint8(control), x) == want {
						t.Fatalf("P18.1: bit %d of PF%d, control %d, pixel %d: not %v", bit, register, control, x, want)
					}
				}
			}
		}
	}
}

// The pixels at the ends, by patterns that light one end alone.
func TestLitEdges(t *testing.T) {
	first, last := [3]uint8{0x10, 0, 0}, [3]uint8{0, 0, 0x80}
	for _, x := range []struct {
		pf      [3]uint8
		control uint8
		x       int
		lit     bool
	}{
		{first, 0, 0, true}, {first, 0, 3, true}, {first, 0, 4, false}, {first, 0, 79, false}, {first, 0, 80, true},
		{first, 0, 83, true}, {first, 0, 84, false}, {first, 0, 156, false}, {first, 0, 159, false},
		{first, 1, 0, true}, {first, 1, 4, false}, {first, 1, 80, false}, {first, 1, 155, false}, {first, 1, 156, true}, {first, 1, 159, true},
		{last, 0, 75, false}, {last, 0, 76, true}, {last, 0, 79, true}, {last, 0, 80, false}, {last, 0, 156, true}, {last, 0, 159, true},
		{last, 1, 79, true}, {last, 1, 80, true}, {last, 1, 83, true}, {last, 1, 84, false}, {last, 1, 159, false},
		{[3]uint8{0x0F, 0, 0}, 0, 0, false}, {[3]uint8{0x0F, 0, 0}, 1, 159, false},
	} {
		if got := field.Lit(x.pf, x.control, x.x); got != x.lit {
			t.Errorf("P18.1: Lit(%v, %d, %d): %v", x.pf, x.control, x.x, got)
		}
	}
}

func TestLitOfNoPixel(t *testing.T) {
	for _, x := range append([]int{-1, -2, -4, -80, -160, 160, 161, 163, 228, 240, 320}, farNumbers...) {
		for control := range 256 {
			if field.Lit([3]uint8{255, 255, 255}, uint8(control), x) {
				t.Errorf("P18.1: Lit at %d, control %d", x, control)
			}
		}
	}
}

func TestGraph(t *testing.T) {
	for bits := range 256 {
		for _, width := range []int{1, 2, 3, 4, 5, 7, 8, 100} {
			for dot := range 8 * width {
				n := dot / width
				straight, mirrored := bits>>(7-n)%2 == 1, bits>>n%2 == 1
				if field.Graph(uint8(bits), false, width, dot) != straight {
					t.Fatalf("P18.3: bits %x, width %d, dot %d: not %v", bits, width, dot, straight)
				}
				if field.Graph(uint8(bits), true, width, dot) != mirrored {
					t.Fatalf("P18.3: bits %x, mirrored, width %d, dot %d: not %v", bits, width, dot, mirrored)
				}
			}
		}
	}
}

func TestGraphEdges(t *testing.T) {
	for _, x := range []struct {
		bits   uint8
		mirror bool
		width  int
		dot    int
		set    bool
	}{
		{0x80, false, 1, 0, true}, {0x80, false, 1, 1, false}, {0x80, false, 1, 7, false}, {0x01, false, 1, 7, true},
		{0x80, true, 1, 0, false}, {0x80, true, 1, 7, true}, {0x01, true, 1, 0, true},
		{0x80, false, 2, 1, true}, {0x80, false, 2, 2, false}, {0x01, false, 2, 13, false}, {0x01, false, 2, 14, true}, {0x01, false, 2, 15, true},
		{0x80, false, 4, 3, true}, {0x80, false, 4, 4, false}, {0x01, false, 4, 28, true}, {0x01, false, 4, 31, true},
		{0x80, true, 8, 55, false}, {0x80, true, 8, 56, true}, {0x80, true, 8, 63, true},
		{255, false, math.MaxInt, 0, true}, {0x80, false, math.MaxInt, math.MaxInt - 1, true}, {0x40, false, math.MaxInt, math.MaxInt, true},
		{0x80, false, math.MaxInt / 4, math.MaxInt/4 - 1, true}, {0x08, false, math.MaxInt / 4, math.MaxInt, true},
	} {
		if got := field.Graph(x.bits, x.mirror, x.width, x.dot); got != x.set {
			t.Errorf("P18.3: Graph(%x, %v, %d, %d): %v", x.bits, x.mirror, x.width, x.dot, got)
		}
	}
}

func TestGraphOfNoDot(t *testing.T) {
	for _, mirror := range []bool{false, true} {
		for _, width := range []int{1, 2, 3, 4, 8, 100} {
			for _, dot := range []int{-1, -2, 1 - width, -width, -8 * width, 8 * width, 8*width + 1, 9 * width, math.MinInt, math.MaxInt} {
				if (dot < 0 || dot >= 8*width) && field.Graph(255, mirror, width, dot) {
					t.Errorf("P18.3: Graph(255, %v, %d, %d)", mirror, width, dot)
				}
			}
		}
		for _, width := range append([]int{0, -1, -2, -8}, math.MinInt, math.MinInt/8, -1<<32) {
			for _, dot := range append([]int{-9, -8, -1, 0, 1, 7, 8, 63}, farNumbers...) {
				if field.Graph(255, mirror, width, dot) {
					t.Errorf("P18.3: Graph(255, %v, %d, %d)", mirror, width, dot)
				}
			}
		}
		for _, dot := range []int{-1, -math.MaxInt, math.MinInt} {
			if field.Graph(255, mirror, math.MaxInt, dot) {
				t.Errorf("P18.3: Graph(255, %v, MaxInt, %d)", mirror, dot)
			}
		}
	}
}
