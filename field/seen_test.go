package field_test

import (
	"testing"

	"woodgrain/field"
)

// seen is the chapter's words.
func seen(d [6]bool, control uint8, x int) int {
	score, above := control&2 != 0, control&4 != 0
	zero, one, playing := d[0] || d[2], d[1] || d[3], d[4] || d[5]
	switch {
	case above && playing:
		return 2
	case zero:
		return 0
	case one:
		return 1
	case playing && score && !d[4] && x < 80:
		return 0
	case playing && score && !d[4]:
		return 1
	case playing:
		return 2
	}
	return 3
}

// Every set of dots, every control, both halves and what lies beside them.
func TestSeen(t *testing.T) {
	for n := range 64 {
		dots := dotsOf(n)
		for control := range 256 {
			for _, x := range append([]int{-1, 0, 1, 40, 79, 80, 81, 120, 159, 160}, farNumbers...) {
				got, want := field.Seen(dots, uint8(control), x), seen(dots, uint8(control), x)
				if got != want {
					t.Fatalf("P18.1: Seen(%v, %d, %d): %d, not %d", dots, control, x, got, want)
				}
			}
		}
	}
}

func TestSeenByHand(t *testing.T) {
	for _, x := range []struct {
		dots    []int
		control uint8
		x       int
		colour  int
	}{
		{nil, 0, 0, 3}, {nil, 2, 0, 3}, {nil, 4, 100, 3}, {nil, 6, 100, 3},
		{[]int{field.P0, field.PF}, 0, 0, 0}, {[]int{field.P0, field.PF}, 4, 0, 2},
		{[]int{field.M0, field.P1}, 0, 0, 0}, {[]int{field.M0, field.P1}, 4, 0, 0}, {[]int{field.M1, field.P0}, 0, 0, 0},
		{[]int{field.P1, field.BL}, 0, 0, 1}, {[]int{field.M1, field.BL}, 4, 0, 2},
		{[]int{field.PF}, 0, 0, 2}, {[]int{field.PF}, 2, 0, 0}, {[]int{field.PF}, 2, 79, 0}, {[]int{field.PF}, 2, 80, 1}, {[]int{field.PF}, 2, 159, 1},
		{[]int{field.PF}, 6, 79, 2}, {[]int{field.PF}, 6, 80, 2}, {[]int{field.PF}, 1, 80, 2}, {[]int{field.PF}, 0xF9, 80, 2},
		{[]int{field.BL}, 2, 0, 2}, {[]int{field.BL, field.PF}, 2, 80, 2},
		{[]int{field.P1, field.PF}, 2, 0, 1}, {[]int{field.P0, field.PF}, 2, 80, 0}, {[]int{field.P1, field.PF}, 6, 0, 2},
	} {
		var dots [6]bool
		for _, n := range x.dots {
			dots[n] = true
		}
		if got := field.Seen(dots, x.control, x.x); got != x.colour {
			t.Errorf("P18.1: Seen of %v, control %d, pixel %d: %d, not %d", x.dots, x.control, x.x, got, x.colour)
		}
	}
}
