package micro_test

import (
	"fmt"
	"testing"

	"woodgrain/api"
	"woodgrain/code"
	"woodgrain/exec"
	"woodgrain/micro"
)

const (
	flagsAlways = 0x20 // U
	flagsNever  = 0x10 // B
)

// memory is all that 13 bits reach.
type memory [8192]uint8

// cycle is what a processor asks, and all that it tells ahead of it.
type cycle struct {
	api.Pins
	regs          api.Regs
	fresh, jammed bool
	code          uint8
}

func (c cycle) String() string {
	return fmt.Sprintf("%s, registers %x, fresh %v, jammed %v, code %x", pinsText(c.Pins), c.regs, c.fresh, c.jammed, c.code)
}

func pinsText(p api.Pins) string {
	if p.Write {
		return fmt.Sprintf("writes %x at %x", p.Data, p.Addr)
	}
	return fmt.Sprintf("reads at %x, with %x", p.Addr, p.Data)
}

// model does a whole code at once, as the chapter's table has it, and keeps
// what it asked on the way.
type model struct {
	api.Regs
	mem    memory
	op     uint8
	jammed bool
	asked  []cycle
}

func newModel(r api.Regs, mem *memory) *model {
	r.P = r.P&^flagsNever | flagsAlways
	return &model{Regs: r, mem: *mem}
}

func (m *model) ask(p api.Pins, fresh bool) {
	p.Addr %= 8192
	m.asked = append(m.asked, cycle{Pins: p, regs: m.Regs, fresh: fresh, jammed: m.jammed, code: m.op})
}

func (m *model) read(addr uint16) uint8 {
	m.ask(api.Pins{Addr: addr}, false)
	return m.mem[addr%8192]
}

func (m *model) write(addr uint16, v uint8) {
	m.ask(api.Pins{Addr: addr, Write: true, Data: v}, false)
	m.mem[addr%8192] = v
}

// next is p+.
func (m *model) next() uint8 {
	b := m.read(m.PC)
	m.PC++
	return b
}

func (m *model) peek() { m.read(256 + uint16(m.S)) }

func (m *model) push(v uint8) {
	m.write(256+uint16(m.S), v)
	m.S--
}

func (m *model) pull() uint8 {
	b := m.read(256 + (uint16(m.S)+1)%256)
	m.S++
	return b
}

func (m *model) setP(v uint8) { m.P = v&^flagsNever | flagsAlways }

func two(low, high uint8) uint16 { return uint16(low) + 256*uint16(high) }

func (m *model) reset() {
	m.read(m.PC)
	m.read(m.PC)
	for range 3 {
		m.peek()
		m.S--
	}
	low := m.read(0xFFFC)
	high := m.read(0xFFFD)
	m.PC = two(low, high)
	m.P |= api.FlagI
}

// do does a code, or one more read of a processor that is jammed.
func (m *model) do() {
	if m.jammed {
		m.read(0xFFFF)
		return
	}
	m.ask(api.Pins{Addr: m.PC}, true)
	m.op = m.mem[m.PC%8192]
	m.PC++
	switch c := code.Of(m.op); c.Kind {
	case code.KSelf:
		m.read(m.PC)
		m.Regs = exec.Self(c.Name, m.Regs)
	case code.KBranch:
		m.branch(c.Name)
	case code.KPush:
		m.read(m.PC)
		m.push(map[string]uint8{"PHA": m.A, "PHP": m.P | flagsNever}[c.Name])
	case code.KPull:
		m.pullOne(c.Name)
	case code.KJump:
		m.jump(c.Mode)
	case code.KCall, code.KBack, code.KReturn, code.KBreak:
		m.far(c.Kind)
	case code.KJam:
		m.jammed = true
	default:
		m.atPlace(c)
	}
}

func (m *model) branch(name string) {
	by := int(m.next())
	if !exec.Goes(name, m.P) {
		return
	}
	m.read(m.PC)
	if by >= 128 {
		by -= 256
	}
	to := uint16((int(m.PC) + by + 65536) % 65536)
	if to/256 != m.PC/256 {
		m.read(m.PC/256*256 + to%256)
	}
	m.PC = to
}

func (m *model) pullOne(name string) {
	m.read(m.PC)
	m.peek()
	b := m.pull()
	if name == "PLP" {
		m.setP(b)
		return
	}
	m.A = b
	m.P = m.P & 0x7D
	if b == 0 {
		m.P += 2
	}
	if b >= 128 {
		m.P += 128
	}
}

func (m *model) jump(mode code.Mode) {
	low := m.next()
	high := m.next()
	if mode == code.Ind {
		at := two(low, high)
		behind := two(low+1, high)
		low, high = m.read(at), m.read(behind)
	}
	m.PC = two(low, high)
}

func (m *model) far(kind code.Kind) {
	switch kind {
	case code.KCall:
		low := m.next()
		m.peek()
		m.push(uint8(m.PC / 256))
		m.push(uint8(m.PC % 256))
		m.PC = two(low, m.read(m.PC))
	case code.KBack:
		m.read(m.PC)
		m.peek()
		low := m.pull()
		m.PC = two(low, m.pull())
		m.next()
	case code.KReturn:
		m.read(m.PC)
		m.peek()
		m.setP(m.pull())
		low := m.pull()
		m.PC = two(low, m.pull())
	case code.KBreak:
		m.next()
		m.push(uint8(m.PC / 256))
		m.push(uint8(m.PC % 256))
		m.push(m.P | flagsNever)
		low := m.read(0xFFFE)
		m.PC = two(low, m.read(0xFFFF))
		m.P |= api.FlagI
	}
}

// atPlace does a code that has an access, or the byte or A in its stead.
func (m *model) atPlace(c code.Code) {
	switch c.Mode {
	case code.Acc:
		m.read(m.PC)
		a, r := exec.Turn(c.Name, m.Regs, m.A)
		r.A = a
		m.Regs = r
	case code.Imm:
		b := m.next()
		m.Regs = exec.Read(c.Name, m.Regs, b)
	case code.Zp:
		m.access(c, two(m.next(), 0), 0, false)
	case code.Zpx, code.Zpy:
		index := m.X
		if c.Mode == code.Zpy {
			index = m.Y
		}
		b := m.next()
		m.read(uint16(b))
		m.access(c, two(b+index, 0), 0, false)
	case code.Abs:
		low := m.next()
		high := m.next()
		m.access(c, two(low, high), high, false)
	case code.Abx, code.Aby:
		index := m.X
		if c.Mode == code.Aby {
			index = m.Y
		}
		low := m.next()
		m.indexed(c, low, m.next(), index)
	case code.Izx:
		b := m.next()
		m.read(uint16(b))
		low := m.read(two(b+m.X, 0))
		high := m.read(two(b+m.X+1, 0))
		m.access(c, two(low, high), high, false)
	case code.Izy:
		b := m.next()
		low := m.read(two(b, 0))
		m.indexed(c, low, m.read(two(b+1, 0)), m.Y)
	}
}

func (m *model) indexed(c code.Code, low, high, index uint8) {
	sum := int(low) + int(index)
	if sum > 255 || c.Kind != code.KRead {
		m.read(uint16(sum%256) + uint16(high)*256)
	}
	m.access(c, uint16((int(high)*256+sum)%65536), high, sum > 255)
}

func (m *model) access(c code.Code, place uint16, base uint8, above bool) {
	switch c.Kind {
	case code.KRead:
		m.Regs = exec.Read(c.Name, m.Regs, m.read(place))
	case code.KStore:
		v, r := exec.Store(c.Name, m.Regs, base)
		if above && exec.Unsure(c.Name) {
			place = two(uint8(place%256), v)
		}
		m.write(place, v)
		m.Regs = r
	case code.KTurn:
		b := m.read(place)
		m.write(place, b)
		v, r := exec.Turn(c.Name, m.Regs, b)
		m.write(place, v)
		m.Regs = r
	}
}

// now is all that a processor tells.
func now(c *micro.Cpu) cycle {
	return cycle{Pins: c.Pins(), regs: c.Regs(), fresh: c.Fresh(), jammed: c.Jammed(), code: c.Code()}
}

// clock ends a cycle on a memory; of a write the byte that comes in is one
// that is not to count.
func clock(c *micro.Cpu, mem *memory) {
	p := c.Pins()
	if p.Write {
		mem[p.Addr] = p.Data
		c.Clock(p.Data ^ 0xA5)
		return
	}
	c.Clock(mem[p.Addr])
}

// holdCode holds a processor against the model over what the model asked.
func holdCode(t *testing.T, what string, c *micro.Cpu, mem *memory, m *model) {
	t.Helper()
	for i, want := range m.asked {
		if got := now(c); got != want {
			t.Fatalf("%s: cycle %d: %v, not %v", what, i, got, want)
		}
		clock(c, mem)
	}
	if r := c.Regs(); r != m.Regs || c.Fresh() == m.jammed || c.Jammed() != m.jammed || c.Code() != m.op {
		t.Fatalf("%s: behind it: %v, not %x", what, now(c), m.Regs)
	}
	if *mem != m.mem {
		t.Fatalf("%s: another byte was written", what)
	}
}
