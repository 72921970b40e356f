// Package poly is layer 1: see shared/doc/01-poly.md.
package poly

import (
	"iter"
	"math/bits"

	"woodgrain/api"
)

// Word is what a poly is kept in.
type Word interface{ ~uint8 | ~uint16 }

// Poly is a shift register with feedback.
type Poly[T Word] struct {
	state     T
	size, tap uint8
}

// New is a poly of a size with a tap; nil, if there is none.
func New[T Word](size, tap int) *Poly[T] {
	if size < 2 || size > wordBits[T]() || tap < 1 || tap >= size {
		return nil
	}
	return &Poly[T]{size: uint8(size), tap: uint8(tap)}
}

// Step goes on, and tells the bit that falls out.
func (p *Poly[T]) Step() uint8 {
	if p == nil {
		return 0
	}
	out := uint8(p.state & 1)
	p.state = p.after(p.state)
	return out
}

// State tells the state.
func (p *Poly[T]) State() T {
	if p == nil {
		return 0
	}
	return p.state
}

// Set sets the state.
func (p *Poly[T]) Set(s T) api.Errno {
	if p == nil {
		return api.ErrArg
	}
	if s>>p.size != 0 {
		return api.ErrRange
	}
	p.state = s
	return api.OK
}

// Bits tells the next bits that would fall out; the state stays.
func (p *Poly[T]) Bits(n int) []uint8 {
	if p == nil || n < 0 || n > api.MaxRun {
		return nil
	}
	ahead := *p
	out := make([]uint8, n)
	for i := range out {
		out[i] = ahead.Step()
	}
	return out
}

// Period tells after how many steps the state comes again.
func (p *Poly[T]) Period() int {
	if p == nil {
		return 0
	}
	steps := 0
	for range p.round(p.state) {
		steps++
	}
	return steps
}

// Place tells after how many steps from 0 on a state comes; false: it never does.
func (p *Poly[T]) Place(s T) (int, bool) {
	if p == nil {
		return 0, false
	}
	steps := 0
	for state := range p.round(0) {
		if state == s {
			return steps, true
		}
		steps++
	}
	return 0, false
}

// round goes over the states from one on, each of them once. No two states
// have the same next one, so the first that comes again is the one it began
// with: it always ends.
func (p *Poly[T]) round(from T) iter.Seq[T] {
	return func(yield func(T) bool) {
		for s := from; yield(s); {
			s = p.after(s)
			if s == from {
				return
			}
		}
	}
}

// after is the state behind a step from s.
func (p *Poly[T]) after(s T) T {
	same := ^(s ^ s>>p.tap) & 1
	return s>>1 | same<<(p.size-1)
}

func wordBits[T Word]() int { return bits.Len16(uint16(^T(0))) }
