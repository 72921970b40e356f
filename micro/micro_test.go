package micro_test

import (
	"fmt"
	"math/rand"
	"slices"
	"testing"

	"woodgrain/api"
	"woodgrain/code"
	"woodgrain/micro"
)

// edges are bytes at which sums and signs go over.
var edges = []uint8{0x00, 0x01, 0x7F, 0x80, 0xFE, 0xFF}

func someByte(random *rand.Rand) uint8 {
	if random.Intn(3) == 0 {
		return edges[random.Intn(len(edges))]
	}
	return uint8(random.Intn(256))
}

func someRegs(random *rand.Rand) api.Regs {
	return api.Regs{
		A: someByte(random), X: someByte(random), Y: someByte(random), S: someByte(random), P: uint8(random.Intn(256)),
		PC: two(someByte(random), someByte(random)),
	}
}

func someMemory(random *rand.Rand) *memory {
	mem := &memory{}
	for i := range mem {
		mem[i] = uint8(random.Intn(256))
	}
	return mem
}

// put puts bytes from an address on.
func (m *memory) put(at uint16, l ...uint8) {
	for i, b := range l {
		m[(int(at)+i)%8192] = b
	}
}

// TestEachCode: every code, from many registers, with many bytes behind it.
func TestEachCode(t *testing.T) {
	for op := range 256 {
		random := rand.New(rand.NewSource(int64(op)))
		mem := someMemory(random)
		for range 400 {
			r := someRegs(random)
			mem.put(r.PC, uint8(op), someByte(random), someByte(random))
			m := newModel(r, mem)
			m.do()
			holdCode(t, fmt.Sprintf("P12.1: %x %s at %x", op, code.Of(uint8(op)).Name, r), micro.At(r, false), mem, m)
		}
	}
}

// TestLongRuns: code after code of bytes by chance, and of the reset.
func TestLongRuns(t *testing.T) {
	for seed := range 100 {
		random := rand.New(rand.NewSource(int64(seed)))
		mem := someMemory(random)
		r := someRegs(random)
		m, c := newModel(r, mem), micro.New(r)
		m.reset()
		holdCode(t, "P12.1: reset", c, mem, m)
		for i := range 500 {
			m.asked = nil
			m.do()
			holdCode(t, fmt.Sprintf("P12.1: run %d, code %d", seed, i), c, mem, m)
		}
	}
}

// access is an address, and what is written there: -1 for a read.
type access struct{ addr, data int }

func reads(addrs ...int) []access {
	var l []access
	for _, addr := range addrs {
		l = append(l, access{addr, -1})
	}
	return l
}

// program is what a test begins with: bytes by their addresses, registers,
// and a code at 1000, behind which PC is told.
type program struct {
	name  string
	bytes map[uint16]uint8
	code  []uint8
	regs  api.Regs
	want  []access
	after api.Regs // P without U
}

func (p program) hold(t *testing.T, promise string) {
	t.Helper()
	mem := &memory{}
	for addr, b := range p.bytes {
		mem[addr%8192] = b
	}
	mem.put(0x1000, p.code...)
	p.regs.PC = 0x1000
	c := micro.At(p.regs, false)
	for i, want := range p.want {
		pins := c.Pins()
		got := access{int(pins.Addr), -1}
		if pins.Write {
			got.data = int(pins.Data)
		} else if pins.Data != 0 {
			t.Errorf("%s: %s: a read with a byte: %s", promise, p.name, pinsText(pins))
		}
		if got != want || c.Fresh() != (i == 0) {
			t.Errorf("%s: %s: cycle %d: %x, not %x; fresh: %v", promise, p.name, i, got, want, c.Fresh())
		}
		clock(c, mem)
	}
	p.after.P |= flagsAlways
	if r := c.Regs(); r != p.after || !c.Fresh() {
		t.Errorf("%s: %s: behind it: %x, not %x; fresh: %v", promise, p.name, r, p.after, c.Fresh())
	}
}

func TestReadsTold(t *testing.T) {
	for _, p := range []program{
		{"INX", nil, []uint8{0xE8}, api.Regs{X: 0xFF}, reads(0x1000, 0x1001), api.Regs{P: 2, PC: 0x1001}},
		{"ASL A", nil, []uint8{0x0A}, api.Regs{A: 0x81}, reads(0x1000, 0x1001), api.Regs{A: 2, P: 1, PC: 0x1001}},
		{"LDA #", nil, []uint8{0xA9, 0x80}, api.Regs{}, reads(0x1000, 0x1001), api.Regs{A: 0x80, P: 0x80, PC: 0x1002}},
		{"NOP #", nil, []uint8{0x80, 0x80}, api.Regs{A: 1}, reads(0x1000, 0x1001), api.Regs{A: 1, PC: 0x1002}},
		{"LDA zp", map[uint16]uint8{0x10: 7}, []uint8{0xA5, 0x10}, api.Regs{}, reads(0x1000, 0x1001, 0x10), api.Regs{A: 7, PC: 0x1002}},
		{"LDA zpx, round", map[uint16]uint8{0x0F: 7, 0x10F: 9}, []uint8{0xB5, 0xF0}, api.Regs{X: 0x1F},
			reads(0x1000, 0x1001, 0xF0, 0x0F), api.Regs{A: 7, X: 0x1F, PC: 0x1002}},
		{"LDX zpy, round", map[uint16]uint8{0x00: 7}, []uint8{0xB6, 0xFF}, api.Regs{X: 9, Y: 1},
			reads(0x1000, 0x1001, 0xFF, 0x00), api.Regs{X: 7, Y: 1, PC: 0x1002}},
		{"LDA abs", map[uint16]uint8{0x1234: 7}, []uint8{0xAD, 0x34, 0x12}, api.Regs{},
			reads(0x1000, 0x1001, 0x1002, 0x1234), api.Regs{A: 7, PC: 0x1003}},
		{"LDA abx, stays", map[uint16]uint8{0x12FF: 7}, []uint8{0xBD, 0xF0, 0x12}, api.Regs{X: 0x0F},
			reads(0x1000, 0x1001, 0x1002, 0x12FF), api.Regs{A: 7, X: 0x0F, PC: 0x1003}},
		{"LDA abx, leaves", map[uint16]uint8{0x1300: 7, 0x1200: 9}, []uint8{0xBD, 0xF0, 0x12}, api.Regs{X: 0x10},
			reads(0x1000, 0x1001, 0x1002, 0x1200, 0x1300), api.Regs{A: 7, X: 0x10, PC: 0x1003}},
		{"LDA aby, leaves the last page", map[uint16]uint8{0x0001: 7}, []uint8{0xB9, 0x02, 0xFF}, api.Regs{Y: 0xFF},
			reads(0x1000, 0x1001, 0x1002, 0x1F01, 0x0001), api.Regs{A: 7, Y: 0xFF, PC: 0x1003}},
		{"LDA izx, round", map[uint16]uint8{0xFF: 0x34, 0x00: 0x12, 0x1234: 7}, []uint8{0xA1, 0xFE}, api.Regs{X: 1},
			reads(0x1000, 0x1001, 0xFE, 0xFF, 0x00, 0x1234), api.Regs{A: 7, X: 1, PC: 0x1002}},
		{"LDA izx, index round", map[uint16]uint8{0x0F: 0x34, 0x10: 0x12, 0x1234: 7}, []uint8{0xA1, 0xF0}, api.Regs{X: 0x1F},
			reads(0x1000, 0x1001, 0xF0, 0x0F, 0x10, 0x1234), api.Regs{A: 7, X: 0x1F, PC: 0x1002}},
		{"LDA izy, stays", map[uint16]uint8{0x40: 0x34, 0x41: 0x12, 0x12FF: 7}, []uint8{0xB1, 0x40}, api.Regs{Y: 0xCB},
			reads(0x1000, 0x1001, 0x40, 0x41, 0x12FF), api.Regs{A: 7, Y: 0xCB, PC: 0x1002}},
		{"LDA izy, leaves, pointer round", map[uint16]uint8{0xFF: 0x34, 0x00: 0x12, 0x1300: 7}, []uint8{0xB1, 0xFF}, api.Regs{Y: 0xCC},
			reads(0x1000, 0x1001, 0xFF, 0x00, 0x1200, 0x1300), api.Regs{A: 7, Y: 0xCC, PC: 0x1002}},
		{"NOP abx, leaves", nil, []uint8{0x1C, 0xFF, 0x12}, api.Regs{X: 1}, reads(0x1000, 0x1001, 0x1002, 0x1200, 0x1300), api.Regs{X: 1, PC: 0x1003}},
		{"LAS aby", map[uint16]uint8{0x1235: 0x3F}, []uint8{0xBB, 0x34, 0x12}, api.Regs{Y: 1, S: 0xF1},
			reads(0x1000, 0x1001, 0x1002, 0x1235), api.Regs{A: 0x31, X: 0x31, Y: 1, S: 0x31, PC: 0x1003}},
	} {
		p.hold(t, "P12.1")
	}
}

func TestWritesTold(t *testing.T) {
	for _, p := range []program{
		{"STA zp", nil, []uint8{0x85, 0x10}, api.Regs{A: 7}, append(reads(0x1000, 0x1001), access{0x10, 7}), api.Regs{A: 7, PC: 0x1002}},
		{"STX zpy", nil, []uint8{0x96, 0xFF}, api.Regs{X: 7, Y: 2}, append(reads(0x1000, 0x1001, 0xFF), access{0x01, 7}), api.Regs{X: 7, Y: 2, PC: 0x1002}},
		{"STY abs", nil, []uint8{0x8C, 0x34, 0x12}, api.Regs{Y: 7}, append(reads(0x1000, 0x1001, 0x1002), access{0x1234, 7}), api.Regs{Y: 7, PC: 0x1003}},
		{"STA abx, stays", nil, []uint8{0x9D, 0xF0, 0x12}, api.Regs{A: 7, X: 1},
			append(reads(0x1000, 0x1001, 0x1002, 0x12F1), access{0x12F1, 7}), api.Regs{A: 7, X: 1, PC: 0x1003}},
		{"STA aby, leaves", nil, []uint8{0x99, 0xF0, 0x12}, api.Regs{A: 7, Y: 0x10},
			append(reads(0x1000, 0x1001, 0x1002, 0x1200), access{0x1300, 7}), api.Regs{A: 7, Y: 0x10, PC: 0x1003}},
		{"STA izx", map[uint16]uint8{0x41: 0x34, 0x42: 0x12}, []uint8{0x81, 0x40}, api.Regs{A: 7, X: 1},
			append(reads(0x1000, 0x1001, 0x40, 0x41, 0x42), access{0x1234, 7}), api.Regs{A: 7, X: 1, PC: 0x1002}},
		{"STA izy, stays", map[uint16]uint8{0x40: 0x34, 0x41: 0x12}, []uint8{0x91, 0x40}, api.Regs{A: 7, Y: 1},
			append(reads(0x1000, 0x1001, 0x40, 0x41, 0x1235), access{0x1235, 7}), api.Regs{A: 7, Y: 1, PC: 0x1002}},
		{"INC zp", map[uint16]uint8{0x10: 0xFF}, []uint8{0xE6, 0x10}, api.Regs{},
			append(reads(0x1000, 0x1001, 0x10), access{0x10, 0xFF}, access{0x10, 0}), api.Regs{P: 2, PC: 0x1002}},
		{"ROL zpx", map[uint16]uint8{0x11: 0x40}, []uint8{0x36, 0x10}, api.Regs{X: 1, P: 1},
			append(reads(0x1000, 0x1001, 0x10, 0x11), access{0x11, 0x40}, access{0x11, 0x81}), api.Regs{X: 1, P: 0x80, PC: 0x1002}},
		{"DEC abs", map[uint16]uint8{0x1234: 1}, []uint8{0xCE, 0x34, 0x12}, api.Regs{},
			append(reads(0x1000, 0x1001, 0x1002, 0x1234), access{0x1234, 1}, access{0x1234, 0}), api.Regs{P: 2, PC: 0x1003}},
		{"LSR abx, stays", map[uint16]uint8{0x1235: 3}, []uint8{0x5E, 0x34, 0x12}, api.Regs{X: 1},
			append(reads(0x1000, 0x1001, 0x1002, 0x1235, 0x1235), access{0x1235, 3}, access{0x1235, 1}), api.Regs{X: 1, P: 1, PC: 0x1003}},
		{"SLO aby, leaves", map[uint16]uint8{0x1300: 0x81}, []uint8{0x1B, 0xFF, 0x12}, api.Regs{A: 0x40, Y: 1},
			append(reads(0x1000, 0x1001, 0x1002, 0x1200, 0x1300), access{0x1300, 0x81}, access{0x1300, 0x02}),
			api.Regs{A: 0x42, Y: 1, P: 1, PC: 0x1003}},
		{"DCP izx", map[uint16]uint8{0x41: 0x34, 0x42: 0x12, 0x1234: 6}, []uint8{0xC3, 0x40}, api.Regs{A: 5, X: 1},
			append(reads(0x1000, 0x1001, 0x40, 0x41, 0x42, 0x1234), access{0x1234, 6}, access{0x1234, 5}), api.Regs{A: 5, X: 1, P: 3, PC: 0x1002}},
		{"ISC izy, leaves", map[uint16]uint8{0x40: 0xFF, 0x41: 0x12, 0x1300: 2}, []uint8{0xF3, 0x40}, api.Regs{A: 5, Y: 1, P: 1},
			append(reads(0x1000, 0x1001, 0x40, 0x41, 0x1200, 0x1300), access{0x1300, 2}, access{0x1300, 3}), api.Regs{A: 2, Y: 1, P: 1, PC: 0x1002}},
	} {
		p.hold(t, "P12.1")
	}
}

// TestUnsureStores: with a sum above 255 the byte is the place's upper one,
// and else it is not.
func TestUnsureStores(t *testing.T) {
	at := reads(0x1000, 0x1001, 0x1002, 0x1210)
	stays := reads(0x1000, 0x1001, 0x1002, 0x12F1)
	pointer := map[uint16]uint8{0x40: 0xF0, 0x41: 0x12}
	for _, p := range []program{
		{"SHA aby, leaves", nil, []uint8{0x9F, 0xF0, 0x12}, api.Regs{A: 0xF3, X: 0x1E, Y: 0x20},
			append(slices.Clone(at), access{0x1210, 0x12}), api.Regs{A: 0xF3, X: 0x1E, Y: 0x20, PC: 0x1003}},
		{"SHX aby, leaves", nil, []uint8{0x9E, 0xF0, 0x12}, api.Regs{X: 0x0F, Y: 0x20},
			append(slices.Clone(at), access{0x0310, 0x03}), api.Regs{X: 0x0F, Y: 0x20, PC: 0x1003}},
		{"SHY abx, leaves", nil, []uint8{0x9C, 0xF0, 0x12}, api.Regs{Y: 0x0F, X: 0x20},
			append(slices.Clone(at), access{0x0310, 0x03}), api.Regs{Y: 0x0F, X: 0x20, PC: 0x1003}},
		{"TAS aby, leaves", nil, []uint8{0x9B, 0xF0, 0x12}, api.Regs{A: 0xF7, X: 0x8F, Y: 0x20, S: 0xAA},
			append(slices.Clone(at), access{0x0310, 0x03}), api.Regs{A: 0xF7, X: 0x8F, Y: 0x20, S: 0x87, PC: 0x1003}},
		{"SHA izy, leaves", pointer, []uint8{0x93, 0x40}, api.Regs{A: 0x0F, X: 0xFE, Y: 0x20},
			append(reads(0x1000, 0x1001, 0x40, 0x41, 0x1210), access{0x0210, 0x02}), api.Regs{A: 0x0F, X: 0xFE, Y: 0x20, PC: 0x1002}},
		{"SHX aby, leaves the last page", nil, []uint8{0x9E, 0xF0, 0xFF}, api.Regs{X: 0xFF, Y: 0x20},
			append(reads(0x1000, 0x1001, 0x1002, 0x1F10), access{0x0010, 0x00}), api.Regs{X: 0xFF, Y: 0x20, PC: 0x1003}},
		{"SHA aby, stays", nil, []uint8{0x9F, 0xF0, 0x12}, api.Regs{A: 0x0F, X: 0x0F, Y: 1},
			append(slices.Clone(stays), access{0x12F1, 0x03}), api.Regs{A: 0x0F, X: 0x0F, Y: 1, PC: 0x1003}},
		{"SHX aby, stays", nil, []uint8{0x9E, 0xF0, 0x12}, api.Regs{X: 0x0F, Y: 1},
			append(slices.Clone(stays), access{0x12F1, 0x03}), api.Regs{X: 0x0F, Y: 1, PC: 0x1003}},
		{"SHY abx, stays", nil, []uint8{0x9C, 0xF0, 0x12}, api.Regs{Y: 0x0F, X: 1},
			append(slices.Clone(stays), access{0x12F1, 0x03}), api.Regs{Y: 0x0F, X: 1, PC: 0x1003}},
		{"TAS aby, stays", nil, []uint8{0x9B, 0xF0, 0x12}, api.Regs{A: 0x0F, X: 0x8F, Y: 1, S: 0xAA},
			append(slices.Clone(stays), access{0x12F1, 0x03}), api.Regs{A: 0x0F, X: 0x8F, Y: 1, S: 0x0F, PC: 0x1003}},
		{"SHA izy, stays", pointer, []uint8{0x93, 0x40}, api.Regs{A: 0x0F, X: 0xFF, Y: 1},
			append(reads(0x1000, 0x1001, 0x40, 0x41, 0x12F1), access{0x12F1, 0x03}), api.Regs{A: 0x0F, X: 0xFF, Y: 1, PC: 0x1002}},
	} {
		p.hold(t, "P12.1")
	}
}

func TestBranchesTold(t *testing.T) {
	for _, p := range []program{
		{"BNE, not", nil, []uint8{0xD0, 0x10}, api.Regs{P: 2}, reads(0x1000, 0x1001), api.Regs{P: 2, PC: 0x1002}},
		{"BNE, ahead", nil, []uint8{0xD0, 0x7F}, api.Regs{}, reads(0x1000, 0x1001, 0x1002), api.Regs{PC: 0x1081}},
		{"BNE, nowhere", nil, []uint8{0xD0, 0x00}, api.Regs{}, reads(0x1000, 0x1001, 0x1002), api.Regs{PC: 0x1002}},
		{"BNE, itself", nil, []uint8{0xD0, 0xFE}, api.Regs{}, reads(0x1000, 0x1001, 0x1002), api.Regs{PC: 0x1000}},
		{"BEQ, back, another page", nil, []uint8{0xF0, 0x80}, api.Regs{P: 2}, reads(0x1000, 0x1001, 0x1002, 0x1082), api.Regs{P: 2, PC: 0x0F82}},
		{"BEQ, one place back, another page", nil, []uint8{0xF0, 0xFD}, api.Regs{P: 2}, reads(0x1000, 0x1001, 0x1002, 0x10FF), api.Regs{P: 2, PC: 0x0FFF}},
	} {
		p.hold(t, "P12.1")
	}
}

// TestBranchAtTheEnd: ahead into another page, and over the end of all.
func TestBranchAtTheEnd(t *testing.T) {
	for _, x := range []struct {
		at   uint16
		by   uint8
		want []access
		pc   uint16
	}{
		{0x12F0, 0x0D, reads(0x12F0, 0x12F1, 0x12F2), 0x12FF},
		{0x12F0, 0x0E, reads(0x12F0, 0x12F1, 0x12F2, 0x1200), 0x1300},
		{0x12F0, 0x7F, reads(0x12F0, 0x12F1, 0x12F2, 0x1271), 0x1371},
		{0x12FE, 0xFF, reads(0x12FE, 0x12FF, 0x1300, 0x13FF), 0x12FF}, // the page behind the code counts
		{0x12FE, 0x00, reads(0x12FE, 0x12FF, 0x1300), 0x1300},
		{0xFFF0, 0x0E, reads(0x1FF0, 0x1FF1, 0x1FF2, 0x1F00), 0x0000},
		{0x0000, 0xFD, reads(0x0000, 0x0001, 0x0002, 0x00FF), 0xFFFF},
	} {
		mem := &memory{}
		mem.put(x.at, 0x10, x.by)
		c := micro.At(api.Regs{PC: x.at}, false)
		for i, want := range x.want {
			if p := c.Pins(); int(p.Addr) != want.addr || p.Write {
				t.Errorf("P12.1: BPL %x at %x: cycle %d: %s", x.by, x.at, i, pinsText(p))
			}
			clock(c, mem)
		}
		if c.Regs().PC != x.pc || !c.Fresh() {
			t.Errorf("P12.1: BPL %x at %x: %x", x.by, x.at, c.Regs())
		}
	}
}

// TestBranchesByFlags: each branch, with its flag set and not.
func TestBranchesByFlags(t *testing.T) {
	for _, x := range []struct {
		op, flag uint8
		set      bool
	}{
		{0x10, 0x80, false}, {0x30, 0x80, true}, {0x50, 0x40, false}, {0x70, 0x40, true},
		{0x90, 0x01, false}, {0xB0, 0x01, true}, {0xD0, 0x02, false}, {0xF0, 0x02, true},
	} {
		for p := range 256 {
			c := micro.At(api.Regs{P: uint8(p), PC: 0x1000}, false)
			c.Clock(x.op)
			c.Clock(0x10)
			goes := !c.Fresh()
			if want := (uint8(p)&x.flag != 0) == x.set; goes != want {
				t.Fatalf("P12.1: %x with %x goes: %v", x.op, p, goes)
			}
		}
	}
}

func TestJumpsTold(t *testing.T) {
	for _, p := range []program{
		{"JMP", nil, []uint8{0x4C, 0x34, 0x12}, api.Regs{}, reads(0x1000, 0x1001, 0x1002), api.Regs{PC: 0x1234}},
		{"JMP ind", map[uint16]uint8{0x1234: 0x78, 0x1235: 0x56}, []uint8{0x6C, 0x34, 0x12}, api.Regs{},
			reads(0x1000, 0x1001, 0x1002, 0x1234, 0x1235), api.Regs{PC: 0x5678}},
		{"JMP ind, a page's end", map[uint16]uint8{0x12FF: 0x78, 0x1200: 0x56, 0x1300: 0x99}, []uint8{0x6C, 0xFF, 0x12}, api.Regs{},
			reads(0x1000, 0x1001, 0x1002, 0x12FF, 0x1200), api.Regs{PC: 0x5678}},
		{"JSR", nil, []uint8{0x20, 0x34, 0x12}, api.Regs{S: 0xFF},
			append(append(reads(0x1000, 0x1001, 0x1FF), access{0x1FF, 0x10}, access{0x1FE, 0x02}), reads(0x1002)...), api.Regs{S: 0xFD, PC: 0x1234}},
		{"JSR, round", nil, []uint8{0x20, 0x34, 0x12}, api.Regs{S: 0x00},
			append(append(reads(0x1000, 0x1001, 0x100), access{0x100, 0x10}, access{0x1FF, 0x02}), reads(0x1002)...), api.Regs{S: 0xFE, PC: 0x1234}},
		{"RTS", map[uint16]uint8{0x1FE: 0x02, 0x1FF: 0x12}, []uint8{0x60}, api.Regs{S: 0xFD},
			reads(0x1000, 0x1001, 0x1FD, 0x1FE, 0x1FF, 0x1202), api.Regs{S: 0xFF, PC: 0x1203}},
		{"RTS, round", map[uint16]uint8{0x100: 0xFF, 0x101: 0x12}, []uint8{0x60}, api.Regs{S: 0xFF},
			reads(0x1000, 0x1001, 0x1FF, 0x100, 0x101, 0x12FF), api.Regs{S: 0x01, PC: 0x1300}},
		{"RTI", map[uint16]uint8{0x1FD: 0xDB, 0x1FE: 0x34, 0x1FF: 0x12}, []uint8{0x40}, api.Regs{S: 0xFC, P: 0x04},
			reads(0x1000, 0x1001, 0x1FC, 0x1FD, 0x1FE, 0x1FF), api.Regs{S: 0xFF, P: 0xCB, PC: 0x1234}},
		{"RTI, round, no flags", map[uint16]uint8{0x100: 0x00, 0x101: 0x34, 0x102: 0x12}, []uint8{0x40}, api.Regs{S: 0xFF, P: 0xFF},
			reads(0x1000, 0x1001, 0x1FF, 0x100, 0x101, 0x102), api.Regs{S: 0x02, P: 0x00, PC: 0x1234}},
		{"BRK", map[uint16]uint8{0x1FFE: 0x34, 0x1FFF: 0x12}, []uint8{0x00}, api.Regs{S: 0xFF, P: 0x09},
			append(append(reads(0x1000, 0x1001), access{0x1FF, 0x10}, access{0x1FE, 0x02}, access{0x1FD, 0x39}), reads(0x1FFE, 0x1FFF)...),
			api.Regs{S: 0xFC, P: 0x0D, PC: 0x1234}},
		{"BRK, round", map[uint16]uint8{0x1FFE: 0x34, 0x1FFF: 0x12}, []uint8{0x00}, api.Regs{S: 0x01, P: 0xFF},
			append(append(reads(0x1000, 0x1001), access{0x101, 0x10}, access{0x100, 0x02}, access{0x1FF, 0xFF}), reads(0x1FFE, 0x1FFF)...),
			api.Regs{S: 0xFE, P: 0xEF, PC: 0x1234}},
	} {
		p.hold(t, "P12.1")
	}
}

func TestStackTold(t *testing.T) {
	for _, p := range []program{
		{"PHA", nil, []uint8{0x48}, api.Regs{A: 7, S: 0x80}, append(reads(0x1000, 0x1001), access{0x180, 7}), api.Regs{A: 7, S: 0x7F, PC: 0x1001}},
		{"PHA, round", nil, []uint8{0x48}, api.Regs{A: 7}, append(reads(0x1000, 0x1001), access{0x100, 7}), api.Regs{A: 7, S: 0xFF, PC: 0x1001}},
		{"PHP", nil, []uint8{0x08}, api.Regs{A: 7, S: 0xFF}, append(reads(0x1000, 0x1001), access{0x1FF, 0x30}), api.Regs{A: 7, S: 0xFE, PC: 0x1001}},
		{"PHP, all flags", nil, []uint8{0x08}, api.Regs{P: 0xFF}, append(reads(0x1000, 0x1001), access{0x100, 0xFF}), api.Regs{S: 0xFF, P: 0xEF, PC: 0x1001}},
		{"PLA", map[uint16]uint8{0x180: 9, 0x181: 0x80}, []uint8{0x68}, api.Regs{S: 0x80, P: 0x02},
			reads(0x1000, 0x1001, 0x180, 0x181), api.Regs{A: 0x80, S: 0x81, P: 0x80, PC: 0x1001}},
		{"PLA, round, 0", map[uint16]uint8{0x1FF: 9}, []uint8{0x68}, api.Regs{A: 7, S: 0xFF, P: 0xFD},
			reads(0x1000, 0x1001, 0x1FF, 0x100), api.Regs{S: 0x00, P: 0x6F, PC: 0x1001}},
		{"PLP", map[uint16]uint8{0x181: 0xFF}, []uint8{0x28}, api.Regs{A: 7, S: 0x80}, reads(0x1000, 0x1001, 0x180, 0x181), api.Regs{A: 7, S: 0x81, P: 0xEF, PC: 0x1001}},
		{"PLP, round, no flags", nil, []uint8{0x28}, api.Regs{A: 7, S: 0xFF, P: 0xFF}, reads(0x1000, 0x1001, 0x1FF, 0x100), api.Regs{A: 7, S: 0x00, PC: 0x1001}},
	} {
		p.hold(t, "P12.1")
	}
}

// TestReset goes over the reset, read by read.
func TestReset(t *testing.T) {
	for _, x := range []struct {
		s    uint8
		want []int
		end  uint8
	}{
		{0xFF, []int{0x1007, 0x1007, 0x1FF, 0x1FE, 0x1FD, 0x1FFC, 0x1FFD}, 0xFC},
		{0x01, []int{0x1007, 0x1007, 0x101, 0x100, 0x1FF, 0x1FFC, 0x1FFD}, 0xFE},
	} {
		mem := &memory{}
		mem.put(0x1FFC, 0x34, 0x12)
		ahead := api.Regs{A: 1, X: 2, Y: 3, S: x.s, P: 0xDB, PC: 0xF007}
		c := micro.New(ahead)
		ahead.P = 0xEB
		for i, addr := range x.want {
			if p := c.Pins(); p != (api.Pins{Addr: uint16(addr)}) || c.Regs() != ahead || c.Fresh() || c.Jammed() || c.Code() != 0 {
				t.Errorf("P12.1: reset, cycle %d: %v", i, now(c))
			}
			if i >= 2 && i < 5 {
				ahead.S--
			}
			clock(c, mem)
		}
		if want := (api.Regs{A: 1, X: 2, Y: 3, S: x.end, P: 0xEF, PC: 0x1234}); c.Regs() != want || !c.Fresh() || c.Code() != 0 {
			t.Errorf("P12.1: reset: %x, not %x", c.Regs(), want)
		}
	}
}

// TestFlagsAtFirst: U is set, and B is not, whatever a processor begins with.
func TestFlagsAtFirst(t *testing.T) {
	for p := range 256 {
		want := uint8(p)&0xEF | 0x20
		r := api.Regs{A: 1, X: 2, Y: 3, S: 4, P: uint8(p), PC: 0xABCD}
		for _, c := range []*micro.Cpu{micro.New(r), micro.At(r, false), micro.At(r, true)} {
			if got := c.Regs(); got != (api.Regs{A: 1, X: 2, Y: 3, S: 4, P: want, PC: 0xABCD}) {
				t.Errorf("P12.1: begun with %x: %x", r, got)
			}
		}
	}
}

func TestAt(t *testing.T) {
	c := micro.At(api.Regs{PC: 0xF123}, false)
	if !c.Fresh() || c.Jammed() || c.Code() != 0 || c.Pins() != (api.Pins{Addr: 0x1123}) {
		t.Errorf("P12.1: At: %v", now(c))
	}
	c.Clock(0xA9)
	if c.Fresh() || c.Code() != 0xA9 || c.Regs().PC != 0xF124 {
		t.Errorf("P12.2: behind the fetch: %v", now(c))
	}
	c.Clock(5)
	if !c.Fresh() || c.Code() != 0xA9 || c.Regs().A != 5 {
		t.Errorf("P12.2: behind LDA: %v", now(c))
	}
}

// TestJam: for ever, whatever is read, by each of its codes or from the beginning.
func TestJam(t *testing.T) {
	r := api.Regs{A: 1, X: 2, Y: 3, S: 4, P: 0x25, PC: 0xFFFF}
	hold := func(c *micro.Cpu, op uint8, r api.Regs) {
		t.Helper()
		want := cycle{Pins: api.Pins{Addr: 0x1FFF}, regs: r, jammed: true, code: op}
		for i := range 2000 {
			if now(c) != want {
				t.Fatalf("P12.2: jammed by %x, cycle %d: %v, not %v", op, i, now(c), want)
			}
			c.Clock(uint8(i))
		}
	}
	hold(micro.At(r, true), 0, r)
	behind := r
	behind.PC = 0x0000
	jams := 0
	for op := range 256 {
		c := micro.At(r, false)
		c.Clock(uint8(op))
		if code.Of(uint8(op)).Kind != code.KJam {
			if c.Jammed() {
				t.Errorf("P12.2: %x jams", op)
			}
			continue
		}
		jams++
		hold(c, uint8(op), behind)
	}
	if jams != 12 {
		t.Errorf("P12.2: %d codes jam", jams)
	}
}

// TestRegsAhead: registers change when a cycle ends, and not ahead of that.
func TestRegsAhead(t *testing.T) {
	for _, x := range []struct {
		name  string
		code  []uint8
		regs  api.Regs
		ahead []api.Regs // P without U
	}{
		{"PLA", []uint8{0x68}, api.Regs{A: 9, S: 0x10}, []api.Regs{
			{A: 9, S: 0x10, PC: 0x1000}, {A: 9, S: 0x10, PC: 0x1001}, {A: 9, S: 0x10, PC: 0x1001}, {A: 9, S: 0x10, PC: 0x1001},
			{A: 0, S: 0x11, P: 2, PC: 0x1001}}},
		{"PHA", []uint8{0x48}, api.Regs{S: 0x10}, []api.Regs{
			{S: 0x10, PC: 0x1000}, {S: 0x10, PC: 0x1001}, {S: 0x10, PC: 0x1001}, {S: 0x0F, PC: 0x1001}}},
		{"SLO zp", []uint8{0x07, 0x40}, api.Regs{A: 0x80}, []api.Regs{
			{A: 0x80, PC: 0x1000}, {A: 0x80, PC: 0x1001}, {A: 0x80, PC: 0x1002}, {A: 0x80, PC: 0x1002}, {A: 0x80, PC: 0x1002},
			{A: 0x80, P: 0x80, PC: 0x1002}}},
		{"TAS aby", []uint8{0x9B, 0x34, 0x12}, api.Regs{A: 0x0F, X: 0x3C, S: 0xFF}, []api.Regs{
			{A: 0x0F, X: 0x3C, S: 0xFF, PC: 0x1000}, {A: 0x0F, X: 0x3C, S: 0xFF, PC: 0x1001}, {A: 0x0F, X: 0x3C, S: 0xFF, PC: 0x1002},
			{A: 0x0F, X: 0x3C, S: 0xFF, PC: 0x1003}, {A: 0x0F, X: 0x3C, S: 0xFF, PC: 0x1003}, {A: 0x0F, X: 0x3C, S: 0x0C, PC: 0x1003}}},
		{"BCC", []uint8{0x90, 0x80}, api.Regs{}, []api.Regs{
			{PC: 0x1000}, {PC: 0x1001}, {PC: 0x1002}, {PC: 0x1002}, {PC: 0x0F82}}},
		{"JSR", []uint8{0x20, 0x34, 0x12}, api.Regs{S: 0xFF}, []api.Regs{
			{S: 0xFF, PC: 0x1000}, {S: 0xFF, PC: 0x1001}, {S: 0xFF, PC: 0x1002}, {S: 0xFF, PC: 0x1002}, {S: 0xFE, PC: 0x1002},
			{S: 0xFD, PC: 0x1002}, {S: 0xFD, PC: 0x1234}}},
		{"RTS", []uint8{0x60}, api.Regs{S: 0x10}, []api.Regs{
			{S: 0x10, PC: 0x1000}, {S: 0x10, PC: 0x1001}, {S: 0x10, PC: 0x1001}, {S: 0x10, PC: 0x1001}, {S: 0x11, PC: 0x1001},
			{S: 0x12, PC: 0x0000}, {S: 0x12, PC: 0x0001}}},
		{"RTI", []uint8{0x40}, api.Regs{S: 0x10, P: 9}, []api.Regs{
			{S: 0x10, P: 9, PC: 0x1000}, {S: 0x10, P: 9, PC: 0x1001}, {S: 0x10, P: 9, PC: 0x1001}, {S: 0x10, P: 9, PC: 0x1001},
			{S: 0x11, PC: 0x1001}, {S: 0x12, PC: 0x1001}, {S: 0x13}}},
		{"BRK", []uint8{0x00}, api.Regs{S: 0x10}, []api.Regs{
			{S: 0x10, PC: 0x1000}, {S: 0x10, PC: 0x1001}, {S: 0x10, PC: 0x1002}, {S: 0x0F, PC: 0x1002}, {S: 0x0E, PC: 0x1002},
			{S: 0x0D, PC: 0x1002}, {S: 0x0D, PC: 0x1002}, {S: 0x0D, P: 4}}},
	} {
		mem := &memory{}
		mem.put(0x1000, x.code...)
		x.regs.PC = 0x1000
		c := micro.At(x.regs, false)
		for i, want := range x.ahead {
			want.P |= flagsAlways
			if got := c.Regs(); got != want {
				t.Errorf("P12.2: %s: ahead of cycle %d: %x, not %x", x.name, i, got, want)
			}
			clock(c, mem)
		}
	}
}

// TestAskedTwice: to ask for what a processor tells changes nothing.
func TestAskedTwice(t *testing.T) {
	random := rand.New(rand.NewSource(1))
	mem := someMemory(random)
	c := micro.New(someRegs(random))
	for range 2000 {
		first := now(c)
		c.Copy().Clock(0)
		if now(c) != first {
			t.Fatalf("P12.2: %v, then %v", first, now(c))
		}
		if clock(c, mem); c.Jammed() {
			c = micro.New(someRegs(random))
		}
	}
}

// TestCopy: of every code, ahead of each cycle; the copy goes on with other
// bytes, and another copy with the same ones.
func TestCopy(t *testing.T) {
	for op := range 256 {
		random := rand.New(rand.NewSource(int64(op)))
		mem := someMemory(random)
		r := someRegs(random)
		mem.put(r.PC, uint8(op))
		m, c := newModel(r, mem), micro.At(r, false)
		for range 3 {
			m.do()
		}
		for i, want := range m.asked {
			if got := now(c); got != want {
				t.Fatalf("P12.2: %x: cycle %d, beside copies: %v, not %v", op, i, got, want)
			}
			same, sameMem := c.Copy(), *mem
			holdRest(t, same, &sameMem, m.asked[i:])
			apart := c.Copy()
			for range 10 {
				apart.Clock(uint8(random.Intn(256)))
			}
			clock(c, mem)
		}
	}
}

func holdRest(t *testing.T, c *micro.Cpu, mem *memory, rest []cycle) {
	t.Helper()
	for i, want := range rest {
		if got := now(c); got != want {
			t.Fatalf("P12.2: a copy's cycle %d: %v, not %v", i, got, want)
		}
		clock(c, mem)
	}
}

// TestCopyOutlives: the first one goes on, and the copy stays where it was.
func TestCopyOutlives(t *testing.T) {
	c := micro.At(api.Regs{PC: 0x1000}, false)
	other := c.Copy()
	ahead := now(c)
	c.Clock(0x02)
	if now(other) != ahead || !c.Jammed() || other.Jammed() {
		t.Errorf("P12.2: the copy: %v, not %v", now(other), ahead)
	}
}

// cyclesOf lets a code run till the next fetch.
func cyclesOf(c *micro.Cpu, mem *memory) int {
	n := 0
	for more := true; more && n < 20; more = !c.Fresh() {
		clock(c, mem)
		n++
	}
	return n
}

// TestCycles: as many as layer 10 says, and the ones more.
func TestCycles(t *testing.T) {
	for op := range 256 {
		of := code.Of(uint8(op))
		if of.Kind == code.KJam {
			continue
		}
		least := code.Cycles(uint8(op))
		for _, x := range []struct {
			index, low uint8
			leaves     bool
		}{{0, 0xFF, false}, {1, 0xFE, false}, {1, 0xFF, true}, {0xFF, 0x00, false}, {0xFF, 0x01, true}} {
			mem := &memory{}
			mem.put(0x0080, x.low, 0x15)
			mem.put(0x1000, uint8(op), 0x80, 0x15)
			want := least
			if of.Mode == code.Abx || of.Mode == code.Aby {
				mem[0x1001] = x.low
			}
			isIndexed := of.Mode == code.Abx || of.Mode == code.Aby || of.Mode == code.Izy
			if x.leaves && isIndexed && of.Kind == code.KRead {
				want++
			}
			if of.Kind == code.KBranch {
				continue
			}
			r := api.Regs{X: x.index, Y: x.index, S: 0x80, PC: 0x1000}
			if n := cyclesOf(micro.At(r, false), mem); n != want {
				t.Errorf("P12.3: %x %s, %x and %x: %d cycles, not %d", op, of.Name, x.low, x.index, n, want)
			}
		}
	}
}

func TestCyclesOfBranches(t *testing.T) {
	for op := 0x10; op < 256; op += 0x20 {
		for by := range 256 {
			for _, p := range []uint8{0x00, 0xFF} {
				mem := &memory{}
				mem.put(0x1040, uint8(op), uint8(by))
				c := micro.At(api.Regs{P: p, PC: 0x1040}, false)
				n, pc := cyclesOf(c, mem), c.Regs().PC
				goes := (op&0x20 != 0) == (p != 0)
				to, want := 0x1042, 2
				if goes {
					to += int(int8(by))
					want = 3
				}
				if to/256 != 0x10 {
					want = 4
				}
				if n != want || int(pc) != to {
					t.Errorf("P12.3: %x by %x: %d cycles, to %x, not %d, %x", op, by, n, pc, want, to)
				}
			}
		}
	}
}

func TestNil(t *testing.T) {
	var c *micro.Cpu
	c.Clock(5)
	if now(c) != (cycle{}) || c.Copy() != nil {
		t.Errorf("P12.3: of nil: %v, %v", now(c), c.Copy())
	}
}
