package field_test

import (
	"strings"
	"testing"

	"woodgrain/field"
)

const (
	names = "P0 P1 M0 M1 BL PF"
	pairs = "M0 P1, M0 P0, M1 P0, M1 P1, P0 PF, P0 BL, P1 PF, P1 BL, M0 PF, M0 BL, M1 PF, M1 BL, BL PF, P0 P1, M0 M1"
)

// isThere: is the dot of that name among them?
func isThere(dots [6]bool, name string) bool { return dots[strings.Index(names, name)/3] }

func TestMeet(t *testing.T) {
	for n := range 64 {
		dots := dotsOf(n)
		var want uint16
		for k, pair := range strings.Split(pairs, ", ") {
			if isThere(dots, pair[:2]) && isThere(dots, pair[3:]) {
				want += 1 << k
			}
		}
		if got := field.Meet(dots); got != want {
			t.Errorf("P18.2: Meet(%v): %x, not %x", dots, got, want)
		}
	}
}

func TestMeetByHand(t *testing.T) {
	if met := field.Meet([6]bool{field.P0: true, field.PF: true}); met != 0x10 {
		t.Errorf("P18.2: P0 and PF: %x", met)
	}
	if met := field.Meet([6]bool{true, true, true, true, true, true}); met != 0x7FFF {
		t.Errorf("P18.2: all: %x", met)
	}
	if met := field.Meet([6]bool{}); met != 0 {
		t.Errorf("P18.2: none: %x", met)
	}
}

// tells are the pairs in bits 7 and 6 of each register; -1 is none.
var tells = [8][2]int{{0, 1}, {2, 3}, {4, 5}, {6, 7}, {8, 9}, {10, 11}, {12, -1}, {13, 14}}

func TestTell(t *testing.T) {
	for register, row := range tells {
		for met := range 1 << 16 {
			want := uint8(0)
			for k, pair := range row {
				if pair >= 0 && met>>pair%2 == 1 {
					want |= 0x80 >> k
				}
			}
			if got := field.Tell(uint16(met), register); got != want {
				t.Fatalf("P18.2: Tell(%x, %d): %x, not %x", met, register, got, want)
			}
		}
	}
}

func TestTellOfNoRegister(t *testing.T) {
	for _, register := range append([]int{-1, -2, -7, -8, 8, 9, 15, 16}, farNumbers...) {
		for _, met := range []uint16{0, 1, 0x7FFF, 0x8000, 0xFFFF} {
			if got := field.Tell(met, register); got != 0 {
				t.Errorf("P18.2: Tell(%x, %d): %x", met, register, got)
			}
		}
	}
}
