package sprite

import (
	"iter"
	"math/bits"
)

const (
	oldest   = 255 // an age stays there
	near     = 8   // behind a start, below which the one ahead of it counts
	wordBits = 64
)

// delay is a delay line of bits: the bit of an age is set, if a start came so
// many ticks ago. The last bit is that of age 255: what falls out behind it is
// told like it.
type delay [(oldest + 1) / wordBits]uint64

// since is a line with starts of two ages.
func since(younger, elder int) delay {
	var d delay
	for _, age := range [...]int{younger, elder} {
		d[age/wordBits] |= 1 << (age % wordBits)
	}
	return d
}

// step is a tick: all starts are one older, and there is a new one or not.
func (d *delay) step(start bool) {
	var in uint64
	if start {
		in = 1
	}
	for i, w := range d {
		d[i] = w<<1 | in
		in = w >> (wordBits - 1)
	}
}

// ages goes over the starts' ages, the youngest one first.
func (d *delay) ages() iter.Seq[int] {
	return func(yield func(int) bool) {
		for i, w := range d {
			for ; w != 0; w &= w - 1 {
				if !yield(i*wordBits + bits.TrailingZeros64(w)) {
					return
				}
			}
		}
	}
}

// lastTwo tells the younger and the elder age. Starts that don't count stay on
// the line: a later one pushes them aside, so no one ever asks for them.
func (d *delay) lastTwo() [2]int {
	last, n := [...]int{oldest, oldest}, 0
	for age := range d.ages() {
		last[n] = age
		n++
		if n == len(last) || age >= near {
			break
		}
	}
	return last
}

// canBe: can a thing have these ages?
func canBe(younger, elder int) bool {
	if younger < near {
		return younger >= 0 && younger < elder && elder <= oldest
	}
	return younger <= oldest && elder == oldest
}
