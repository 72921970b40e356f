package micro

import (
	"woodgrain/api"
	"woodgrain/code"
	"woodgrain/exec"
)

const stackPage uint8 = 1

// endStack ends a cycle of what pushes and pulls.
func (c *Cpu) endStack(b uint8) {
	switch c.step {
	case peeking:
		c.endPeeking()
	case pushing:
		c.regs.S--
		c.fetch()
	case pushingHigh:
		c.regs.S--
		c.push(uint8(c.regs.PC), pushingLow)
	case pushingLow:
		c.regs.S--
		if c.doing.Kind == code.KCall {
			c.read(c.regs.PC, callingHigh)
		} else {
			c.push(c.regs.P|api.FlagB, pushingFlags)
		}
	case pushingFlags:
		c.regs.S--
		c.read(breakVector, vectorLow)
	case callingHigh:
		c.jump(join(c.low, b))
	case pulling:
		c.regs.S++
		c.pullRegister(b)
	case pullingFlags:
		c.regs.S++
		c.regs.P = cleanFlags(b)
		c.pull(pullingLow)
	case pullingLow:
		c.regs.S++
		c.low = b
		c.pull(pullingHigh)
	case pullingHigh:
		c.regs.S++
		c.comeBack(join(c.low, b))
	case skipping:
		c.jump(c.regs.PC + 1)
	}
}

// endPeeking goes on behind the read that changes nothing.
func (c *Cpu) endPeeking() {
	switch c.doing.Kind {
	case code.KCall:
		c.push(uint8(c.regs.PC>>8), pushingHigh)
	case code.KPull:
		c.pull(pulling)
	case code.KReturn:
		c.pull(pullingFlags)
	default:
		c.pull(pullingLow)
	}
}

func (c *Cpu) pushRegister() {
	v := c.regs.A
	if c.doing.Name == "PHP" {
		v = c.regs.P | api.FlagB
	}
	c.push(v, pushing)
}

func (c *Cpu) pullRegister(b uint8) {
	if c.doing.Name == "PLP" {
		c.regs.P = cleanFlags(b)
	} else {
		c.regs = exec.Read("LDA", c.regs, b)
	}
	c.fetch()
}

func (c *Cpu) comeBack(place uint16) {
	if c.doing.Kind == code.KReturn {
		c.jump(place)
		return
	}
	c.regs.PC = place
	c.read(place, skipping)
}

func (c *Cpu) stack() uint16 { return join(c.regs.S, stackPage) }

// push asks for a write; S changes when its cycle ends.
func (c *Cpu) push(v uint8, next step) { c.write(c.stack(), v, next) }

// pull asks for a read above S, which changes when its cycle ends.
func (c *Cpu) pull(next step) { c.read(join(c.regs.S+1, stackPage), next) }
