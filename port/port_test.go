package port_test

import (
	"math"
	"testing"

	"woodgrain/api"
	"woodgrain/port"
)

// levelOf is the level of a port, line by line.
func levelOf(in, out, way int) int {
	level := 0
	for bit := 1; bit < 256; bit *= 2 {
		line := in / bit % 2
		if way/bit%2 == 1 {
			line = out / bit % 2
		}
		level += line * bit
	}
	return level
}

// portHas holds a port against what it should have.
func portHas(t *testing.T, promise string, p *port.Port, w [3]int) {
	t.Helper()
	if p.Words() != w || int(p.Ways()) != w[2] || int(p.Level()) != levelOf(w[0], w[1], w[2]) {
		t.Fatalf("%s: it has %v, ways %x, level %x, not %v", promise, p.Words(), p.Ways(), p.Level(), w)
	}
}

func TestNewPort(t *testing.T) {
	for in := range 256 {
		p := port.New(uint8(in))
		portHas(t, "P7.1", p, [3]int{in, 0, 0})
		if int(p.Level()) != in || p.Ways() != 0 {
			t.Errorf("P7.1: New(%x): level %x, ways %x", in, p.Level(), p.Ways())
		}
	}
}

func TestPortExample(t *testing.T) {
	p := port.New(0)
	p.In(0xFF)
	p.Out(0x12)
	p.Way(0x0F)
	if p.Level() != 0xF2 {
		t.Errorf("P7.1: level %x", p.Level())
	}
}

// TestLinesBesideOneAnother: each line's level is its own affair, whatever the
// lines beside it do.
func TestLinesBesideOneAnother(t *testing.T) {
	for line := range 8 {
		for state := range 8 {
			in, out, way := state&1, state>>1&1, state>>2
			for _, rest := range [][3]int{{0, 0, 0}, {255, 0, 0}, {0, 255, 0}, {0, 0, 255}, {255, 255, 0}, {255, 0, 255}, {0, 255, 255}, {255, 255, 255}} {
				others := 255 - 1<<line
				w := [3]int{rest[0]&others | in<<line, rest[1]&others | out<<line, rest[2]&others | way<<line}
				p := port.New(uint8(w[0]))
				p.Out(uint8(w[1]))
				p.Way(uint8(w[2]))
				want := in
				if way == 1 {
					want = out
				}
				if int(p.Level())>>line&1 != want {
					t.Errorf("P7.1: line %d of %v: level %x", line, w, p.Level())
				}
				portHas(t, "P7.1", p, w)
			}
		}
	}
}

func TestLevelOfAllBytes(t *testing.T) {
	p := port.New(0)
	for in := range 256 {
		p.In(uint8(in))
		for out := 0; out < 256; out += 3 {
			p.Out(uint8(out))
			for way := 0; way < 256; way += 5 {
				p.Way(uint8(way))
				if int(p.Level()) != levelOf(in, out, way) || int(p.Ways()) != way {
					t.Fatalf("P7.1: in %x, out %x, way %x: level %x, ways %x", in, out, way, p.Level(), p.Ways())
				}
			}
		}
	}
}

func TestEachCallSetsItsOwnByte(t *testing.T) {
	for v := range 256 {
		p := port.New(0x35)
		p.Out(0xA6)
		p.Way(0x5C)
		p.In(uint8(v))
		portHas(t, "P7.1", p, [3]int{v, 0xA6, 0x5C})
		p.In(0x35)
		p.Out(uint8(v))
		portHas(t, "P7.1", p, [3]int{0x35, v, 0x5C})
		p.Out(0xA6)
		p.Way(uint8(v))
		portHas(t, "P7.1", p, [3]int{0x35, 0xA6, v})
	}
}

// TestWhatIsNotSeenIsKept: what is driven on a line that goes out, and what was
// written to one that does not, is there as soon as the line is turned.
func TestWhatIsNotSeenIsKept(t *testing.T) {
	p := port.New(0x0F)
	p.Out(0xF1)
	portHas(t, "P7.1", p, [3]int{0x0F, 0xF1, 0})
	p.Way(0xFF)
	p.In(0x3C)
	if p.Level() != 0xF1 {
		t.Errorf("P7.1: all lines go out: level %x", p.Level())
	}
	p.Way(0)
	if p.Level() != 0x3C {
		t.Errorf("P7.1: no line goes out: level %x", p.Level())
	}
	p.Way(0xF0)
	if p.Level() != 0xFC {
		t.Errorf("P7.1: the upper lines go out: level %x", p.Level())
	}
}

func TestAskingChangesNoPort(t *testing.T) {
	p := port.New(0x35)
	p.Out(0xA6)
	p.Way(0x5C)
	for range 3 {
		portHas(t, "P7.1", p, [3]int{0x35, 0xA6, 0x5C})
	}
}

func TestSetPort(t *testing.T) {
	p := port.New(1)
	for v := range 256 {
		for _, w := range [][3]int{{v, 1, 2}, {3, v, 4}, {5, 6, v}, {v, 255 - v, v ^ 0x0F}} {
			if e := p.Set(w); e != api.OK {
				t.Fatalf("P7.3: Set(%v): %d", w, e)
			}
			portHas(t, "P7.3", p, w)
		}
	}
}

func TestSetPortRefuses(t *testing.T) {
	p := port.New(0x35)
	p.Out(0xA6)
	p.Way(0x5C)
	for place := range 3 {
		for _, n := range []int{-1, -128, -256, 256, 257, 511, 1 << 16, 1 << 32, math.MinInt, math.MaxInt} {
			w := [3]int{1, 2, 3}
			w[place] = n
			if e := p.Set(w); e != api.ErrRange {
				t.Errorf("P7.3: Set(%v): %d", w, e)
			}
			portHas(t, "R2", p, [3]int{0x35, 0xA6, 0x5C})
		}
	}
}

func TestTwoPorts(t *testing.T) {
	p, q := port.New(0x11), port.New(0x11)
	if e := q.Set(p.Words()); e != api.OK {
		t.Fatalf("P7.3: Set of another's words: %d", e)
	}
	q.In(0x22)
	q.Out(0x33)
	q.Way(0x44)
	portHas(t, "R4", p, [3]int{0x11, 0, 0})
	portHas(t, "R4", q, [3]int{0x22, 0x33, 0x44})
}

func TestNilPort(t *testing.T) {
	var p *port.Port
	p.In(1)
	p.Out(2)
	p.Way(3)
	if p.Level() != 0 || p.Ways() != 0 || p.Words() != [3]int{} {
		t.Error("P7.3: a nil port has something")
	}
	for _, w := range [][3]int{{}, {1, 2, 3}, {256, 0, 0}} {
		if e := p.Set(w); e != api.ErrArg {
			t.Errorf("P7.3: Set(%v) of nil: %d", w, e)
		}
	}
}
