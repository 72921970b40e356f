package riot_test

import (
	"math/rand"
	"slices"
	"testing"

	"woodgrain/api"
	"woodgrain/riot"
)

// model is a riot as the chapters' words make it, in plain numbers.
type model struct {
	ram   [128]int
	ports [2][3]int // driven, written, which lines go out
	timer [5]int    // value, interval, cycles left, fast, flag
	edge  [3]int    // high, rising, caught
}

func newModel(ram [128]uint8) *model {
	m := &model{ports: [2][3]int{{255, 0, 0}, {255, 0, 0}}, timer: [5]int{255, 1024, 1, 0, 0}, edge: [3]int{1, 0, 0}}
	for i, b := range ram {
		m.ram[i] = int(b)
	}
	return m
}

func bit(n, place int) int { return n >> place & 1 }

func (m *model) level(p int) int {
	level := 0
	for line := range 8 {
		from := m.ports[p][0]
		if bit(m.ports[p][2], line) == 1 {
			from = m.ports[p][1]
		}
		level += bit(from, line) << line
	}
	return level
}

func (m *model) tick() {
	switch t := &m.timer; {
	case t[3] == 1:
		t[0] = (t[0] + 255) % 256
		t[2] = t[1]
	case t[2] > 1:
		t[2]--
	case t[0] > 0:
		t[0]--
		t[2] = t[1]
	default:
		*t = [5]int{255, t[1], t[1], 1, 1}
	}
	high := bit(m.level(0), 7)
	if high != m.edge[0] && high == m.edge[1] {
		m.edge[2] = 1
	}
	m.edge[0] = high
}

func (m *model) read(addr int) int {
	addr %= 1024
	switch {
	case bit(addr, 9) == 0:
		return m.ram[addr%128]
	case bit(addr, 2) == 0 && addr%4 == 0:
		return m.level(0)
	case bit(addr, 2) == 0 && addr%4 == 1:
		return m.ports[0][2]
	case bit(addr, 2) == 0 && addr%4 == 2:
		return m.level(1)
	case bit(addr, 2) == 0:
		return m.ports[1][2]
	case bit(addr, 0) == 1:
		b := m.timer[4]*128 + m.edge[2]*64
		m.edge[2] = 0
		return b
	}
	if m.timer[3] == 1 {
		m.timer[3], m.timer[2] = 0, m.timer[1]
	}
	m.timer[4] = 0
	return m.timer[0]
}

func (m *model) store(addr, v int) {
	addr %= 1024
	switch {
	case bit(addr, 9) == 0:
		m.ram[addr%128] = v
	case bit(addr, 2) == 0:
		m.ports[addr%4/2][1+addr%2] = v
	case bit(addr, 4) == 1:
		m.timer = [5]int{v, []int{1, 8, 64, 1024}[addr%4], 1, 0, 0}
	default:
		m.edge[1] = bit(addr, 0)
	}
}

func (m *model) in(a, b uint8) { m.ports[0][0], m.ports[1][0] = int(a), int(b) }

func (m *model) words() []int {
	return slices.Concat(m.ram[:], m.ports[0][:], m.ports[1][:], m.timer[:], m.edge[:])
}

// same holds a riot against a model.
func same(t *testing.T, promise string, r *riot.Riot, m *model) {
	t.Helper()
	if w := r.Words(); !slices.Equal(w, m.words()) {
		t.Fatalf("%s: the words are\n%v, not\n%v", promise, w, m.words())
	}
	if int(r.Timer()) != m.timer[0] {
		t.Fatalf("%s: Timer: %d, not %d", promise, r.Timer(), m.timer[0])
	}
	for i, b := range r.Ram() {
		if int(b) != m.ram[i] {
			t.Fatalf("%s: the RAM's byte %d is %d, not %d", promise, i, b, m.ram[i])
		}
	}
}

func someRam() [128]uint8 {
	var ram [128]uint8
	for i := range ram {
		ram[i] = uint8(i*37 + 11)
	}
	return ram
}

// someModels are riots of which no two parts have the same.
func someModels() []*model {
	a, b, c := newModel(someRam()), newModel(someRam()), newModel(someRam())
	a.ports = [2][3]int{{0x35, 0xA6, 0x5C}, {0x91, 0x4E, 0x27}}
	a.timer, a.edge = [5]int{17, 64, 33, 0, 1}, [3]int{0, 0, 1}
	b.ports = [2][3]int{{0xC1, 0x0D, 0xE2}, {0x3B, 0xF0, 0x88}}
	b.timer, b.edge = [5]int{0xB7, 8, 8, 1, 1}, [3]int{1, 1, 0}
	c.ports = [2][3]int{{0x7F, 0x80, 0x80}, {0, 0xFF, 0}}
	c.timer, c.edge = [5]int{0, 1024, 1, 0, 0}, [3]int{0, 1, 1}
	return []*model{newModel(someRam()), a, b, c}
}

func (m *model) riot(t *testing.T) *riot.Riot {
	t.Helper()
	r := riot.New([128]uint8{})
	if e := r.Set(m.words()); e != api.OK {
		t.Fatalf("P8.2: Set(%v): %d", m.words(), e)
	}
	return r
}

// TestEachAddress reads and writes every address of 16 bits, and looks at all
// that has become of the riot.
func TestEachAddress(t *testing.T) {
	for n, from := range someModels() {
		r, words := from.riot(t), from.words()
		for addr := range 1 << 16 {
			m := *from
			r.Set(words)
			if got, want := r.Read(uint16(addr)), m.read(addr); int(got) != want {
				t.Fatalf("P8.1: riot %d: Read(%x): %x, not %x", n, addr, got, want)
			}
			same(t, "P8.1", r, &m)
			m = *from
			r.Set(words)
			v := (addr*5 + addr>>8 + n) % 256
			r.Store(uint16(addr), uint8(v))
			m.store(addr, v)
			same(t, "P8.1", r, &m)
		}
	}
}

// TestLongRuns does whatever comes, and ticks.
func TestLongRuns(t *testing.T) {
	for seed := range int64(20) {
		rnd := rand.New(rand.NewSource(seed))
		r, m := riot.New(someRam()), newModel(someRam())
		for step := range 4000 {
			addr, v := rnd.Intn(1<<16), rnd.Intn(256)
			switch rnd.Intn(8) {
			case 0:
				r.Store(uint16(addr), uint8(v))
				m.store(addr, v)
			case 1, 2:
				if got, want := r.Read(uint16(addr)), m.read(addr); int(got) != want {
					t.Fatalf("P8.1: run %d, step %d: Read(%x): %x, not %x", seed, step, addr, got, want)
				}
			case 3:
				r.In(uint8(v), uint8(addr))
				m.in(uint8(v), uint8(addr))
			case 4:
				for range rnd.Intn(400) {
					r.Tick()
					m.tick()
				}
			default:
				r.Tick()
				m.tick()
			}
			same(t, "P8.1", r, m)
		}
	}
}
