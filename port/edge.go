package port

import "woodgrain/api"

// Edge sees edges.
type Edge struct{ high, rising, caught bool }

// NewEdge is an edge that saw a level last.
func NewEdge(high bool) *Edge { return &Edge{high: high} }

// Choose sets which edges it catches.
func (e *Edge) Choose(rising bool) {
	if e != nil {
		e.rising = rising
	}
}

// See sees a level.
func (e *Edge) See(high bool) {
	if e == nil {
		return
	}
	if high != e.high && high == e.rising {
		e.caught = true
	}
	e.high = high
}

// Caught: is one caught?
func (e *Edge) Caught() bool { return e != nil && e.caught }

// Take takes what is caught.
func (e *Edge) Take() bool {
	if e == nil {
		return false
	}
	was := e.caught
	e.caught = false
	return was
}

// Words tells all that it has.
func (e *Edge) Words() [3]int {
	if e == nil {
		return [3]int{}
	}
	return [3]int{oneIf(e.high), oneIf(e.rising), oneIf(e.caught)}
}

// Set sets all that it has.
func (e *Edge) Set(w [3]int) api.Errno {
	if e == nil {
		return api.ErrArg
	}
	bits, ok := parts(w, func(word int) (bool, bool) {
		return word == 1, word == 0 || word == 1
	})
	if !ok {
		return api.ErrRange
	}
	*e = Edge{high: bits[0], rising: bits[1], caught: bits[2]}
	return api.OK
}

func oneIf(is bool) int {
	if is {
		return 1
	}
	return 0
}
