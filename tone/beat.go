package tone

import "woodgrain/poly"

// Controls, and their bits.
const (
	gateBits = 1<<1 | 1<<0 // which beats go on
	turnBit  = 1 << 2
	fiveBit  = 1 << 3
	noise    = 8  // the one control that is high by the poly of nine bits
	slow     = 12 // the first control that is slower
)

const (
	slower = 3
	later  = 18 // steps behind 0 of the poly of five bits: there a beat goes on, too
)

// length is how many beat ticks a beat takes.
func (v *Voice) length() int {
	n := int(v.rate) + 1
	if v.control >= slow {
		n *= slower
	}
	return n
}

// isSteady: does it tell its volume while it is low, too?
func (v *Voice) isSteady() bool { return v.control == 0 || v.control == 11 }

// beat steps the poly of five bits always, the other ones only if the control
// asks them.
func (v *Voice) beat() {
	five := falls(&v.five)
	switch {
	case !v.goesOn(five):
	case v.control&turnBit != 0:
		v.high = !v.high
	case v.control == noise:
		v.high = falls(&v.nine)
	case v.control&fiveBit != 0:
		v.high = five
	default:
		v.high = falls(&v.four)
	}
}

// goesOn: does a beat go on, when five fell out?
func (v *Voice) goesOn(five bool) bool {
	switch v.control & gateBits {
	case 2:
		steps, comes := v.five.Place(v.five.State())
		return comes && (steps == 0 || steps == later)
	case 3:
		return five
	}
	return true
}

// falls steps a poly: is the bit that falls out 1?
func falls[T poly.Word](p *poly.Poly[T]) bool { return p.Step() == 1 }
