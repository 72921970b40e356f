// Package count is layer 2: see shared/doc/02-count.md.
package count

import (
	"woodgrain/api"
	"woodgrain/poly"
)

const (
	mostParts  = 65536 // of a divider
	mostStates = 63    // of a counter: its poly comes round then
	placeHigh  = 40    // states of a place's counter
	placeLow   = 4     // by which a place's divider divides
)

// Divider counts ticks.
type Divider struct{ at, by int }

// By is a divider by a number; nil, if there is none.
func By(n int) *Divider {
	if n < 1 || n > mostParts {
		return nil
	}
	return &Divider{by: n}
}

// Tick goes on; true: it came round.
func (d *Divider) Tick() bool {
	if d == nil {
		return false
	}
	next, again := goRound(d.at, d.by-1, d.at+1)
	d.at = next
	return again
}

// Count tells where it is.
func (d *Divider) Count() int {
	if d == nil {
		return 0
	}
	return d.at
}

// Phase tells in which phase it is.
func (d *Divider) Phase() int {
	switch {
	case d == nil:
		return 0
	case d.at == 0: // ahead of the half: a divider by 1 has both at 0
		return 1
	case d.at == d.by/2:
		return 2
	}
	return 0
}

// Set sets it.
func (d *Divider) Set(n int) api.Errno {
	if d == nil {
		return api.ErrArg
	}
	if n < 0 || n >= d.by {
		return api.ErrRange
	}
	d.at = n
	return api.OK
}

// register is named anew so that what a counter embeds is its own, and can't
// be exchanged from outside.
type register = poly.Poly[uint8]

// Counter counts in a poly: its count is nowhere but in the poly's state.
type Counter struct {
	register
	last uint8 // the mark behind which it comes round
}

// Of is a counter of so many states; nil, if there is none.
func Of(states int) *Counter {
	if states < 1 || states > mostStates {
		return nil
	}
	c := &Counter{register: *poly.New[uint8](6, 1)}
	c.walk(states - 1)
	c.last = c.State()
	c.walk(0)
	return c
}

// Tick goes on; true: it came round.
func (c *Counter) Tick() bool {
	if c == nil {
		return false
	}
	at := c.State()
	c.Step()
	next, again := goRound(at, c.last, c.State())
	c.register.Set(next)
	return again
}

// Count tells where it is.
func (c *Counter) Count() int {
	if c == nil {
		return 0
	}
	return c.countOf(c.State())
}

// Mark tells its poly's state.
func (c *Counter) Mark() uint8 {
	if c == nil {
		return 0
	}
	return c.State()
}

// At: is it there?
func (c *Counter) At(i int) bool { return c != nil && c.Count() == i }

// Set sets it.
func (c *Counter) Set(i int) api.Errno {
	if c == nil {
		return api.ErrArg
	}
	if i < 0 || i > c.countOf(c.last) {
		return api.ErrRange
	}
	c.walk(i)
	return api.OK
}

// walk goes from 0 to the mark at i.
func (c *Counter) walk(i int) {
	c.register.Set(0)
	for range i {
		c.Step()
	}
}

// countOf is the count whose mark it is.
func (c *Counter) countOf(mark uint8) int {
	i, _ := c.Place(mark)
	return i
}

// Place is where a thing is on a line.
type Place struct {
	high Counter
	low  Divider
}

// Begin is a place at 0.
func Begin() *Place { return &Place{high: *Of(placeHigh), low: *By(placeLow)} }

// Tick goes on; true: it came round.
func (p *Place) Tick() bool { return p != nil && p.low.Tick() && p.high.Tick() }

// Count tells where it is.
func (p *Place) Count() int {
	if p == nil {
		return 0
	}
	return p.high.Count()*placeLow + p.low.Count()
}

// At: is it there?
func (p *Place) At(n int) bool {
	// The divider is asked first: it tells three of four apart without a walk.
	return p != nil && p.low.Count() == n%placeLow && p.high.At(n/placeLow)
}

// Set sets it.
func (p *Place) Set(n int) api.Errno {
	if p == nil {
		return api.ErrArg
	}
	if n < 0 || n >= placeHigh*placeLow {
		return api.ErrRange
	}
	p.high.Set(n / placeLow)
	p.low.Set(n % placeLow)
	return api.OK
}

// Copy is another place, at the same count.
func (p *Place) Copy() *Place {
	if p == nil {
		return nil
	}
	other := *p
	return &other
}

// goRound tells what comes behind at: the next one, or 0 behind the last one,
// and then true.
func goRound[T int | uint8](at, last, next T) (T, bool) {
	if at == last {
		return 0, true
	}
	return next, false
}
