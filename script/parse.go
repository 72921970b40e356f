package script

import (
	"slices"

	"woodgrain/api"
	"woodgrain/image"
)

// Parse reads a script.
func Parse(b []byte) (api.Script, api.Errno) {
	if len(b) > api.MaxScript {
		return api.Script{}, api.ErrLong
	}
	r := reader{left: b}
	return r.attempt()
}

// noScript is what the reader gives up with.
type noScript api.Errno

// reader has the bytes that are left.
type reader struct{ left []byte }

// attempt reads a script; of bytes that are none it tells the error.
func (r *reader) attempt() (s api.Script, e api.Errno) {
	defer func() {
		if p := recover(); p != nil {
			fault, ours := p.(noScript)
			if !ours {
				panic(p)
			}
			s, e = api.Script{}, api.Errno(fault)
		}
	}()
	s.Tag = string(r.take(number[int](r, tagLength)))
	s.Image = r.image(s.Tag)
	s.Power = r.power()
	s.Events = r.events()
	return s, api.OK
}

// image looks at the length ahead of the bytes: one that the mapper has not
// counts more than bytes that are too few.
func (r *reader) image(tag string) []byte {
	length := number[int](r, imageLength)
	if _, e := image.Fit(tag, length); e != api.OK {
		panic(noScript(e))
	}
	return slices.Clone(r.take(length))
}

func (r *reader) power() api.Power {
	var p api.Power
	copy(p.Ram[:], r.take(ramBytes))
	copy(p.Extra[:], r.take(extraBytes))
	p.Regs = api.Regs{
		A: number[uint8](r, 1), X: number[uint8](r, 1), Y: number[uint8](r, 1),
		S: number[uint8](r, 1), P: number[uint8](r, 1), PC: number[uint16](r, pcBytes),
	}
	p.Clock = number[uint8](r, 1)
	if p.Clock >= api.Clocks {
		panic(noScript(api.ErrRange))
	}
	p.Latch = number[uint8](r, 1)
	return p
}

// events are all the bytes that are left.
func (r *reader) events() []api.Event {
	var events []api.Event
	for len(r.left) > 0 {
		v := api.Event{Clocks: number[int](r, eventClocks), Kind: number[uint8](r, 1), Value: number[uint8](r, 1)}
		switch {
		case len(events) == api.MaxEvents:
			panic(noScript(api.ErrFull))
		case v.Kind >= api.InKinds:
			panic(noScript(api.ErrKind))
		}
		events = append(events, v)
	}
	return events
}

// take cuts so many bytes off.
func (r *reader) take(n int) []byte {
	if n > len(r.left) {
		panic(noScript(api.ErrShort))
	}
	part := r.left[:n]
	r.left = r.left[n:]
	return part
}

// number reads a number of so many bytes, the lowest one first.
func number[T uint8 | uint16 | int](r *reader, bytes int) T {
	var n T
	for i, b := range r.take(bytes) {
		n |= T(b) << (8 * i)
	}
	return n
}
