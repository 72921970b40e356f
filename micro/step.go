package micro

import (
	"woodgrain/api"
	"woodgrain/code"
	"woodgrain/exec"
)

// step is what a cycle is for. Steps that are alike stand together, so that
// the number tells which of the switches ends them.
type step uint8

const (
	resetFirst step = iota
	resetSecond
	resetStack
	resetStackSecond
	resetStackThird
	vectorLow
	vectorHigh
	fetching
	idling // p, whatever the byte is
	taking // p+, the first byte behind the code
	branching
	branchingFar // in the page that is left
	jammed
	lastOfCourse = jammed
)

const (
	takingSecond    step = iota + lastOfCourse + 1 // p+
	indexing                                       // in page 0
	indexingPointer                                // in page 0
	pointerLow
	pointerHigh
	leaving // in the page that is left
	reading
	readingToTurn
	writingBack // the byte that was read
	writing     // the last one of a code
	lastOfPlace = writing
)

const (
	peeking step = iota + lastOfPlace + 1 // s
	pushing                               // the last one of a code
	pushingHigh
	pushingLow
	pushingFlags
	callingHigh // p, the upper byte of the place that is called
	pulling     // the last one of a code
	pullingFlags
	pullingLow
	pullingHigh
	skipping // p, and PC is one more
)

const (
	resetVector = 0xFFFC
	breakVector = 0xFFFE
	jamPlace    = 0xFFFF
)

// endCourse ends a cycle of what goes on from code to code.
func (c *Cpu) endCourse(b uint8) {
	switch c.step {
	case resetFirst:
		c.read(c.regs.PC, resetSecond)
	case resetSecond:
		c.read(c.stack(), resetStack)
	case resetStack, resetStackSecond:
		c.regs.S--
		c.read(c.stack(), c.step+1)
	case resetStackThird:
		c.regs.S--
		c.read(resetVector, vectorLow)
	case vectorLow:
		c.low = b
		c.read(c.pins.Addr+1, vectorHigh)
	case vectorHigh:
		c.regs.P |= api.FlagI
		c.jump(join(c.low, b))
	case fetching:
		c.regs.PC++
		c.begin(b)
	case idling:
		c.endIdling()
	case taking:
		c.regs.PC++
		c.take(b)
	case branching:
		c.branch()
	case branchingFar:
		c.jump(c.target())
	}
}

// begin begins a code.
func (c *Cpu) begin(op uint8) {
	c.fetched, c.doing = op, code.Of(op)
	switch {
	case c.doing.Kind == code.KJam:
		c.jam()
	case code.Length(op) == 1 && c.doing.Kind != code.KBreak:
		c.read(c.regs.PC, idling)
	default: // a break goes over a byte, too
		c.read(c.regs.PC, taking)
	}
}

// endIdling goes on with a code of one byte.
func (c *Cpu) endIdling() {
	switch c.doing.Kind {
	case code.KSelf:
		c.finish(exec.Self(c.doing.Name, c.regs))
	case code.KTurn:
		a, r := exec.Turn(c.doing.Name, c.regs, c.regs.A)
		r.A = a
		c.finish(r)
	case code.KPush:
		c.pushRegister()
	default:
		c.read(c.stack(), peeking)
	}
}

// branch goes to its place, by way of a read if that is in another page.
func (c *Cpu) branch() {
	place, page := c.target(), c.regs.PC>>8
	if place>>8 == page {
		c.jump(place)
		return
	}
	c.read(join(uint8(place), page), branchingFar)
}

func (c *Cpu) target() uint16 { return c.regs.PC + uint16(int8(c.low)) }

func (c *Cpu) read(addr uint16, next step) {
	c.pins, c.step = api.Pins{Addr: addr}, next
}

func (c *Cpu) write(addr uint16, v uint8, next step) {
	c.pins, c.step = api.Pins{Addr: addr, Write: true, Data: v}, next
}

func (c *Cpu) fetch() { c.read(c.regs.PC, fetching) }

func (c *Cpu) jam() { c.read(jamPlace, jammed) }

func (c *Cpu) jump(place uint16) {
	c.regs.PC = place
	c.fetch()
}

// finish ends a code.
func (c *Cpu) finish(r api.Regs) {
	c.regs = r
	c.fetch()
}

// join puts two bytes into one place; the upper one may stand in 16 bits, as
// a page that a place was taken from does.
func join[U uint8 | uint16](lower uint8, upper U) uint16 {
	return uint16(upper)<<8 | uint16(lower)
}
