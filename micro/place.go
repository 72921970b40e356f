package micro

import (
	"woodgrain/code"
	"woodgrain/exec"
)

const zeroPage uint8 = 0

// endPlace ends a cycle of what finds a place, or of the access there.
func (c *Cpu) endPlace(b uint8) {
	switch c.step {
	case indexing:
		c.access(join(c.low+c.index(), zeroPage))
	case indexingPointer:
		c.read(join(c.low+c.index(), zeroPage), pointerLow)
	case pointerLow:
		c.low = b
		at := c.pins.Addr
		c.read(join(uint8(at)+1, at>>8), pointerHigh)
	case takingSecond:
		c.regs.PC++
		if c.doing.Mode == code.Ind {
			c.read(join(c.low, b), pointerLow)
			break
		}
		fallthrough
	case pointerHigh:
		c.high = b
		c.reach()
	case leaving:
		c.access(join(c.low, c.high) + uint16(c.index()))
	case reading:
		c.finish(exec.Read(c.doing.Name, c.regs, b))
	case readingToTurn:
		c.write(c.pins.Addr, b, writingBack)
	case writingBack:
		v, r := exec.Turn(c.doing.Name, c.regs, c.pins.Data)
		c.regsBehind = r
		c.write(c.pins.Addr, v, writing)
	case writing:
		c.finish(c.regsBehind)
	}
}

// take goes on with the first byte behind a code.
func (c *Cpu) take(b uint8) {
	c.low, c.high = b, zeroPage
	switch c.doing.Kind {
	case code.KBreak:
		c.push(uint8(c.regs.PC>>8), pushingHigh)
	case code.KCall:
		c.read(c.stack(), peeking)
	case code.KBranch:
		if exec.Goes(c.doing.Name, c.regs.P) {
			c.read(c.regs.PC, branching)
		} else {
			c.fetch()
		}
	default:
		c.takeByMode(b)
	}
}

func (c *Cpu) takeByMode(b uint8) {
	place := join(b, zeroPage)
	switch c.doing.Mode {
	case code.Imm:
		c.finish(exec.Read(c.doing.Name, c.regs, b))
	case code.Zp:
		c.access(place)
	case code.Zpx, code.Zpy:
		c.read(place, indexing)
	case code.Izx:
		c.read(place, indexingPointer)
	case code.Izy:
		c.read(place, pointerLow)
	default:
		c.read(c.regs.PC, takingSecond)
	}
}

// reach goes on with a place of which both bytes are there.
func (c *Cpu) reach() {
	switch c.doing.Mode {
	case code.Abx, code.Aby, code.Izy:
		c.reachIndexed()
	default: // the index of Izx was added ahead of its pointer
		c.access(join(c.low, c.high))
	}
}

// reachIndexed adds the index to the lower byte; reads alone go without a
// cycle for the upper one, if they stay in the page.
func (c *Cpu) reachIndexed() {
	sum := c.low + c.index()
	stays := sum >= c.low
	if stays && c.doing.Kind == code.KRead {
		c.access(join(sum, c.high))
		return
	}
	c.read(join(sum, c.high), leaving)
}

func (c *Cpu) index() uint8 {
	switch c.doing.Mode {
	case code.Zpx, code.Abx, code.Izx:
		return c.regs.X
	}
	return c.regs.Y
}

// access begins what the code does at its place; a jump just goes there.
func (c *Cpu) access(place uint16) {
	switch c.doing.Kind {
	case code.KJump:
		c.jump(place)
	case code.KStore:
		c.store(place)
	case code.KTurn:
		c.read(place, readingToTurn)
	default:
		c.read(place, reading)
	}
}

func (c *Cpu) store(place uint16) {
	v, r := exec.Store(c.doing.Name, c.regs, c.high)
	leaves := uint8(place>>8) != c.high
	if leaves && exec.Unsure(c.doing.Name) {
		place = join(uint8(place), v)
	}
	c.regsBehind = r
	c.write(place, v, writing)
}
