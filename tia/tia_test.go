package tia_test

import (
	"math"
	"math/rand"
	"slices"
	"testing"

	"woodgrain/api"
	"woodgrain/tia"
)

func steps(x *tia.Tia, n int) {
	for range n {
		x.Step()
	}
}

// line are what a chip tells of the clocks from the next one on that is 0.
func line(x *tia.Tia) [228]tia.Dot {
	var l [228]tia.Dot
	for l[0] = x.Step(); l[0].Clock != 0; {
		l[0] = x.Step()
	}
	for i := range l[1:] {
		l[i+1] = x.Step()
	}
	return l
}

// store writes pairs of an address and a byte.
func store(x *tia.Tia, pairs ...int) {
	for i := 0; i < len(pairs); i += 2 {
		x.Store(uint16(pairs[i]), uint8(pairs[i+1]))
	}
}

// busy is a chip of which nothing is as at power-on.
func busy() *model {
	return &model{w: [many]int{
		100, 1, 3, 2, 21, 7, 6, 22, 30, 255, 255, 150, 3, 19, 99, 70, 255, 0, 0, 16,
		4, 3, 9, 5, 17, 300, 2, 1, 8, 20, 15, 14, 30, 511, 60, 0,
		1, 128, 254, 255, 77, 0, 1, 0, 1, 0, 0,
		1, 0x40, 0x35, 0x17, 0x2F, 0x44, 0x83, 0x1E, 0x25, 8, 7, 0xF0, 0xA5, 0x3C, 0x81, 0x42, 0x99, 0x18, 2, 3,
		1, 0, 0x70, 0x80, 0x9F, 0x10, 0xF0, 1, 2, 3, 2, 1, 0x5A5A, 1,
	}}
}

// random is a chip of which anything may be so.
func random(r *rand.Rand) *model {
	m := atPowerOn(r.Intn(228))
	m.w[aLate] = r.Intn(2)
	if r.Intn(2) == 1 {
		m.w[aMotion], m.w[aMotion+1], m.w[aMotion+2] = r.Intn(16), r.Intn(4), r.Intn(32)
	}
	for n := range 5 {
		w := m.w[aThings+3*n:]
		w[0], w[1] = r.Intn(160), r.Intn(256)
		if r.Intn(3) == 0 {
			w[1] = r.Intn(8)
			w[2] = w[1] + 1 + r.Intn(255-w[1])
		}
	}
	for n := range 2 {
		for i, most := range voiceEnds {
			m.w[aVoices+8*n+i] = r.Intn(most + 1)
		}
	}
	for at := aVSYNC; at < aMet; at++ {
		m.w[at] = r.Intn(256)
	}
	m.w[aENABL], m.w[aENABL+1] = r.Intn(2), r.Intn(2)
	m.w[aMet], m.w[aWaits] = r.Intn(1<<15), r.Intn(2)
	return m
}

var voiceEnds = [8]int{15, 31, 15, 15, 31, 511, 95, 1}

func TestNew(t *testing.T) {
	for clock := range 228 {
		x := tia.New(clock)
		if x == nil {
			t.Fatalf("P21.1: New(%d) is nil", clock)
		}
		has(t, "P21.1", x, atPowerOn(clock))
	}
	for _, clock := range []int{-1, -228, 228, 229, 456, 1 << 32, math.MinInt, math.MaxInt} {
		if tia.New(clock) != nil {
			t.Errorf("P21.1: New(%d) is a chip", clock)
		}
	}
	x, y := tia.New(5), tia.New(5)
	store(y, 0x09, 4, 0x2A, 0, 0x02, 0, 0x10, 0, 0x19, 3)
	steps(y, 300)
	has(t, "R5", x, atPowerOn(5))
}

// What a chip at power-on tells of a line: no register is set.
func TestEmptyLine(t *testing.T) {
	x := tia.New(0)
	for clock, d := range line(x) {
		want := tia.Dot{Clock: clock, Blank: clock < 68, Sync: clock >= 20 && clock <= 35, Begins: clock == 0}
		if d != want {
			t.Errorf("P21.1: of clock %d it tells %v", clock, d)
		}
	}
	if d := x.Step(); d.Clock != 0 || !d.Begins {
		t.Errorf("P21.1: behind clock 227 comes %v", d)
	}
}

func TestExamples(t *testing.T) {
	x := tia.New(0)
	x.Store(0x09, 0x1E)
	for clock, d := range line(x) {
		want := uint8(0x1E)
		if clock < 68 {
			want = 0
		}
		if d.Pixel != want {
			t.Errorf("P21.1: the pixel of clock %d: %X", clock, d.Pixel)
		}
	}
	x = tia.New(68)
	store(x, 0x10, 0, 0x1B, 0x80, 0x06, 0x2E)
	seen := 0
	for n := range 160 {
		if n > 0 && x.Counts()[0] == 0 {
			t.Errorf("P21.1: the count is 0 behind %d clocks", n)
		}
		seen |= int(x.Step().Pixel)
	}
	if x.Counts()[0] != 0 || seen != 0 {
		t.Errorf("P21.1: behind 160 clocks: %d, seen %X", x.Counts()[0], seen)
	}
	steps(x, 68)
	for n := range 160 {
		want := uint8(0)
		if n == 5 {
			want = 0x2E
		}
		if d := x.Step(); d.Pixel != want {
			t.Errorf("P21.1: %d clocks behind it the pixel is %X", n, d.Pixel)
		}
	}
}

// Each address of 6 bits, with each byte, and with some bits above them.
func TestStore(t *testing.T) {
	r := rand.New(rand.NewSource(1))
	for addr := range uint16(64) {
		for v := range 256 {
			for _, m := range []*model{busy(), random(r)} {
				x := set(t, m)
				x.Store(addr|uint16(r.Intn(1024))<<6, uint8(v))
				m.store(addr, uint8(v))
				has(t, "P21.1", x, m)
			}
		}
	}
	for _, addr := range []uint16{0x49, 0x89, 0x109, 0xFFC9} {
		x, m := set(t, busy()), busy()
		x.Store(addr, 0x77)
		m.w[aColours+3] = 0x77
		has(t, "P21.1", x, m)
	}
}

// Where each register of a byte stands, and that nothing else is changed.
func TestStoreRegisters(t *testing.T) {
	words := map[uint16]int{
		0x00: 47, 0x04: 49, 0x05: 50, 0x06: 51, 0x07: 52, 0x08: 53, 0x09: 54, 0x0A: 55,
		0x0B: 56, 0x0C: 57, 0x0D: 58, 0x0E: 59, 0x0F: 60, 0x1D: 65, 0x1E: 66,
		0x20: 69, 0x21: 70, 0x22: 71, 0x23: 72, 0x24: 73, 0x25: 74, 0x26: 75, 0x27: 76,
	}
	for addr, at := range words {
		x := set(t, busy())
		for v := range 256 {
			x.Store(addr, uint8(v))
			m := busy()
			m.w[at] = v
			has(t, "P21.1", x, m)
		}
	}
	others := []uint16{0x2D, 0x2E, 0x2F}
	for addr := uint16(0x30); addr < 0x40; addr++ {
		others = append(others, addr)
	}
	x := set(t, busy())
	for _, addr := range others {
		for v := range 256 {
			x.Store(addr, uint8(v))
			has(t, "P21.1", x, busy())
		}
	}
}

func TestVoiceRegisters(t *testing.T) {
	for i, addr := range []uint16{0x15, 0x17, 0x19} {
		for n := range 2 {
			for v := range 256 {
				x, m := set(t, busy()), busy()
				x.Store(addr+uint16(n), uint8(v))
				m.w[aVoices+8*n+i] = v & voiceEnds[i]
				has(t, "P21.1", x, m)
			}
		}
	}
}

// Of a graphic there is a new and an old one; the other player's write makes
// the new one the old one, too.
func TestGraphics(t *testing.T) {
	x, m := set(t, busy()), busy()
	is := func(p0, old0, p1, old1, ball, oldBall int) {
		t.Helper()
		copy(m.w[aGRP:], []int{p0, old0, p1, old1})
		copy(m.w[aENABL:], []int{ball, oldBall})
		has(t, "P21.1", x, m)
	}
	is(0x81, 0x42, 0x99, 0x18, 1, 0)
	x.Store(0x1B, 1)
	is(1, 0x42, 0x99, 0x99, 1, 0)
	x.Store(0x1C, 2)
	is(1, 1, 2, 0x99, 1, 1)
	x.Store(0x1F, 0xFD)
	is(1, 1, 2, 0x99, 0, 1)
	x.Store(0x1B, 3)
	is(3, 1, 2, 2, 0, 1)
	x.Store(0x1B, 4)
	is(4, 1, 2, 2, 0, 1)
	x.Store(0x1C, 2)
	is(4, 4, 2, 2, 0, 0)
	x.Store(0x1F, 2)
	is(4, 4, 2, 2, 1, 0)
	x.Store(0x1C, 5)
	is(4, 4, 5, 2, 1, 1)
}

// It waits from WSYNC on, till the step that begins a line.
func TestWait(t *testing.T) {
	for clock := range 228 {
		x := tia.New(clock)
		if x.Waits() {
			t.Fatal("P21.1: at power-on it waits")
		}
		x.Store(0x02, uint8(clock))
		for n := (228 - clock) % 228; n > 0; n-- {
			if d := x.Step(); d.Begins || !x.Waits() {
				t.Fatalf("P21.1: WSYNC ahead of clock %d: behind clock %d it waits: %v", clock, d.Clock, x.Waits())
			}
		}
		if d := x.Step(); !d.Begins || x.Waits() {
			t.Fatalf("P21.1: WSYNC ahead of clock %d: a line is begun (%v), and it waits: %v", clock, d.Begins, x.Waits())
		}
	}
}

func TestRsync(t *testing.T) {
	for clock := range 228 {
		x, m := tia.New(clock), atPowerOn(0)
		x.Store(0x03, 0xFF)
		has(t, "P21.1", x, m)
		x.Store(0x02, 0)
		if d := x.Step(); d.Clock != 0 || !d.Begins || x.Waits() {
			t.Errorf("P21.1: RSYNC at clock %d: then comes %v", clock, d)
		}
	}
	x := tia.New(70) // late, it is so till the line begins that RSYNC makes
	store(x, 0x2A, 0, 0x03, 0)
	if w := x.Words(); w[aClock] != 0 || w[aLate] != 1 {
		t.Errorf("P21.1: RSYNC: the beam is %v", w[:2])
	}
	if x.Step(); x.Words()[aLate] != 0 {
		t.Error("P21.1: it is late yet, in a line that RSYNC made begin")
	}
}

// A thing's count is 0, be it dark or not, and that is no start.
func TestRes(t *testing.T) {
	for _, clock := range []int{0, 1, 67, 68, 69, 100, 227} {
		for n := range 5 {
			m := busy()
			m.w[aClock], m.w[aLate], m.w[aMotion], m.w[aMotion+1], m.w[aMotion+2] = clock, 0, 16, 0, 0
			x := set(t, m)
			x.Store(uint16(0x10+n), 0x55)
			m.w[aThings+3*n] = 0
			has(t, "P21.1", x, m)
			want := 0
			if clock >= 68 {
				want = 1
			}
			if x.Step(); x.Counts()[n] != want {
				t.Errorf("P21.1: RES at clock %d: then the count is %d", clock, x.Counts()[n])
			}
		}
	}
}

// A thing that is put at 0 is not drawn there, but 160 ticks later.
func TestResIsNoStart(t *testing.T) {
	for _, clock := range []int{0, 40, 68, 71, 150} {
		x := tia.New(clock)
		store(x, 0x1B, 0xFF, 0x1D, 2, 0x1F, 2, 0x06, 0x22, 0x08, 0x44)
		store(x, 0x10, 0, 0x12, 0, 0x14, 0)
		for range 228 - clock {
			if d := x.Step(); d.Pixel != 0 {
				t.Fatalf("P21.1: RES at clock %d: drawn at once, at %d", clock, d.Clock)
			}
		}
		first := max(clock, 68)
		for at, d := range line(x) {
			// The players come behind 5 ticks, the others behind 4.
			there := at == first+4 || at >= first+5 && at < first+13
			if (d.Pixel != 0) != there {
				t.Errorf("P21.1: RES at clock %d: clock %d is %X", clock, at, d.Pixel)
			}
		}
	}
}

// The missile's lock: set, kept, taken back, with each width of its player.
func TestResmp(t *testing.T) {
	for player := range 2 {
		for nusiz := range 256 {
			less := 5
			switch nusiz % 8 {
			case 5:
				less = 10
			case 7:
				less = 18
			}
			for _, count := range []int{0, 4, 5, 9, 10, 17, 18, 80, 159} {
				m := busy()
				m.w[aNUSIZ+player], m.w[aThings+3*player], m.w[aRESMP+player] = nusiz, count, 0
				x := set(t, m)
				write := func(v int, moved bool) {
					t.Helper()
					x.Store(uint16(0x28+player), uint8(v))
					if m.w[aRESMP+player] = v; moved {
						m.w[aThings+3*(2+player)] = (count - less + 160) % 160
					}
					has(t, "P21.1", x, m)
				}
				write(0xFD, false) // it was not locked
				write(2, false)
				write(0xFE, false) // it stays locked
				write(0xF1, true)
				x.Store(uint16(0x12+player), 0)
				m.w[aThings+3*(2+player)] = 0
				write(0, false) // it was not locked any more
			}
		}
	}
}

func TestHmclr(t *testing.T) {
	x, m := set(t, busy()), busy()
	x.Store(0x2B, 0xFF)
	clear(m.w[aHM : aHM+5])
	has(t, "P21.1", x, m)
}

func TestHmove(t *testing.T) {
	for clock := range 228 {
		m := busy()
		m.w[aClock], m.w[aLate] = clock, 0
		x := set(t, m)
		x.Store(0x2A, 0xFF)
		m.w[aLate], m.w[aMotion], m.w[aMotion+1], m.w[aMotion+2] = 1, 0, 0, 31
		has(t, "P21.1", x, m)
	}
}

// VBLANK's bits: 1 blanks, 6 latches the buttons, 7 dumps the paddles' charge.
func TestVblank(t *testing.T) {
	x := tia.New(0)
	x.Store(0x09, 0x1E)
	for v := range 256 {
		x.Store(0x01, uint8(v))
		for clock, d := range line(x) {
			blank := clock < 68 || v&2 != 0
			if d.Blank != blank || (d.Pixel == 0x1E) == blank || d.Pixel&^0x1E != 0 || d.Sync != (clock >= 20 && clock <= 35) {
				t.Fatalf("P21.1: VBLANK %X: it tells %v", v, d)
			}
		}
		w := x.Words()
		if w[aVBLANK] != v || w[aPorts+5] != v>>7 || w[aPorts+8] != v>>6&1 {
			t.Fatalf("P21.1: VBLANK %X: %v", v, w[aPorts:aVBLANK+1])
		}
	}
}

// What meets while VBLANK blanks has met.
func TestBlankPixelsMeet(t *testing.T) {
	x := tia.New(68)
	store(x, 0x01, 2, 0x10, 0, 0x11, 0, 0x1B, 0x80, 0x1C, 0x80)
	steps(x, 2*228)
	if x.Read(7, 0) != 0x80 {
		t.Errorf("P21.1: while it is blank: %X", x.Read(7, 0))
	}
}

func TestVsync(t *testing.T) {
	x := tia.New(0)
	x.Store(0x09, 0x1E)
	for v := range 256 {
		x.Store(0x00, uint8(v))
		for clock, d := range line(x) {
			if d.Sync != (v&2 != 0 || clock >= 20 && clock <= 35) || d.Blank != (clock < 68) || d.Pixel != 0x1E && clock >= 68 {
				t.Fatalf("P21.1: VSYNC %X: it tells %v", v, d)
			}
		}
	}
}

// Each colour is told without its lowest bit.
func TestColours(t *testing.T) {
	for v := range 256 {
		x := tia.New(0)
		store(x, 0x06, v, 0x07, v^0x10, 0x08, v^0x20, 0x09, v^0x30)
		store(x, 0x0D, 0x10, 0x1D, 2, 0x1E, 2, 0x04, 0x30, 0x05, 0x30)
		for x.Words()[aClock] != 76 {
			x.Step()
		}
		x.Store(0x12, 0)
		steps(x, 16)
		x.Store(0x13, 0)
		steps(x, 228)
		l := line(x)
		for clock, want := range map[int]int{68: v ^ 0x20, 79: v ^ 0x30, 80: v, 96: v ^ 0x10, 140: v ^ 0x30} {
			if int(l[clock].Pixel) != want&^1 {
				t.Errorf("P21.1: with %X the colour of clock %d is %X", v, clock, l[clock].Pixel)
			}
		}
	}
}

// The voices tick at the clocks 57 and 171 alone; a step tells them behind that.
func TestVoices(t *testing.T) {
	x := tia.New(0)
	store(x, 0x15, 4, 0x19, 9, 0x16, 5, 0x18, 1, 0x1A, 6)
	for k := range 8 {
		for clock, d := range line(x) {
			beats := 2 * k // of voice 0; voice 1 has half as many
			switch {
			case clock >= 171:
				beats += 2
			case clock >= 57:
				beats++
			}
			want := beats%2*9 + beats/2%2*6
			if int(d.Audio) != want {
				t.Fatalf("P21.1: in line %d, clock %d the level is %d, not %d", k, clock, d.Audio, want)
			}
		}
	}
}

func TestLevelsTogether(t *testing.T) {
	for a := range 16 {
		for b := range 16 {
			x := tia.New(0)
			store(x, 0x19, a|0xF0, 0x1A, b|0x30) // control 0: always the volume
			for range 60 {
				if d := x.Step(); int(d.Audio) != a+b {
					t.Fatalf("P21.1: volumes %d and %d: %d", a, b, d.Audio)
				}
			}
		}
	}
	r := rand.New(rand.NewSource(2))
	most := uint8(0)
	for range 40 {
		x := set(t, random(r))
		for range 2000 {
			most = max(most, x.Step().Audio)
		}
	}
	x := tia.New(0)
	store(x, 0x19, 15, 0x1A, 15)
	if most > 30 || x.Step().Audio != 30 {
		t.Errorf("P21.3: the levels together are %d", most)
	}
}

func TestPorts(t *testing.T) {
	x := tia.New(1)
	x.In(0, 2)
	x.In(3, 0)
	store(x, 0x01, 0x80)
	steps(x, 3*228)
	store(x, 0x01, 0)
	for k := range 6 { // a line has a charge of one more, once it begins
		for n, want := range []bool{k > 2, k > 0, k > 0, k > 0} {
			if got := x.Read(uint16(8+n), 0) == 0x80; got != want {
				t.Errorf("P21.1: paddle %d behind %d lines is high: %v", n, k, got)
			}
		}
		for x.Step().Clock != 0 {
		}
	}
	x.Store(0x01, 0x40)
	x.In(4, 0x7F)
	x.In(4, 0xFF)
	if x.Read(0xC, 0) != 0 || x.Read(0xD, 0) != 0x80 {
		t.Error("P21.1: a latched button")
	}
	x.Store(0x01, 0)
	if x.Read(0xC, 0) != 0x80 {
		t.Error("P21.1: a button that is not latched any more")
	}
	x.In(5, 0)
	if x.Read(0xD, 0x7F) != 0x7F {
		t.Error("P21.1: a low button")
	}
	x = set(t, busy())
	for _, n := range []int{-1, 6, 7, 8, 1 << 32, math.MinInt, math.MaxInt} {
		x.In(n, 0x99)
		has(t, "P21.1", x, busy())
	}
	for n := range 6 {
		for v := range 256 {
			x, m := set(t, busy()), busy()
			x.In(n, uint8(v))
			m.in(n, uint8(v))
			has(t, "P21.1", x, m)
		}
	}
}

// Each address, with each byte on the bus, of a chip whose pairs have met one by
// one, and together.
func TestRead(t *testing.T) {
	r := rand.New(rand.NewSource(3))
	models := []*model{atPowerOn(0), busy()}
	for n := range 15 {
		m := busy()
		m.w[aMet] = 1 << n
		models = append(models, m)
	}
	for range 30 {
		models = append(models, random(r))
	}
	for _, m := range models {
		x := set(t, m)
		for addr := range uint16(16) {
			for bus := range 256 {
				high := uint16(r.Intn(4096)) << 4
				if got, want := x.Read(addr|high, uint8(bus)), m.read(addr, uint8(bus)); got != want {
					t.Fatalf("P21.1: met %X: Read(%X, %X): %X, not %X", m.w[aMet], addr|high, bus, got, want)
				}
			}
		}
		has(t, "P21.1", x, m) // to read changes nothing
	}
}

// For each pair two things at one place: they have met, and no others, till CXCLR.
func TestPairs(t *testing.T) {
	on := [6][]int{{0x1B, 0x80}, {0x1C, 0x80}, {0x1D, 2}, {0x1E, 2}, {0x1F, 2}, {0x0D, 0xF0}}
	pairs := [15][2]int{{2, 1}, {2, 0}, {3, 0}, {3, 1}, {0, 5}, {0, 4}, {1, 5}, {1, 4}, {2, 5}, {2, 4}, {3, 5}, {3, 4}, {4, 5}, {0, 1}, {2, 3}}
	for n, pair := range pairs {
		m := atPowerOn(0)
		for thing, lead := range []int{5, 5, 4, 4, 4} {
			m.w[aThings+3*thing], m.w[aThings+3*thing+1] = lead, lead // all of them have their dot 0 at pixel 0
		}
		x := set(t, m)
		for _, thing := range pair {
			store(x, on[thing]...)
		}
		line(x)
		if met := x.Words()[aMet]; met != 1<<n {
			t.Errorf("P21.1: pair %d: met have %X", n, met)
		}
		addr, bit := uint16(n/2), 7-n%2
		if n >= 13 {
			addr, bit = 7, 7-(n-13)
		}
		for a := range uint16(8) {
			want := 0x15
			if a == addr {
				want |= 1 << bit
			}
			if got := x.Read(a, 0x15); int(got) != want {
				t.Errorf("P21.1: pair %d: Read(%d): %X", n, a, got)
			}
		}
		store(x, on[pair[0]][0], 0)
		line(x)
		if met := x.Words()[aMet]; met != 1<<n {
			t.Errorf("P21.1: pair %d is forgotten: %X", n, met)
		}
		if x.Store(0x2C, 0xFF); x.Words()[aMet] != 0 {
			t.Errorf("P21.1: CXCLR: %X", x.Words()[aMet])
		}
		if line(x); x.Words()[aMet] != 0 {
			t.Errorf("P21.1: pair %d, behind CXCLR: %X", n, x.Words()[aMet])
		}
	}
}

func TestLongRuns(t *testing.T) {
	for seed := range int64(24) {
		r := rand.New(rand.NewSource(seed))
		m := random(r)
		x := set(t, m)
		for range 12000 {
			switch k := r.Intn(20 + 30*int(seed)); {
			case k < 6:
				addr, v := uint16(r.Intn(1<<16)), uint8(r.Intn(256))
				x.Store(addr, v)
				m.store(addr, v)
			case k == 6:
				n, v := r.Intn(8)-1, uint8(r.Intn(256))
				x.In(n, v)
				m.in(n, v)
			case k == 7:
				x = x.Copy()
			case k == 8:
				x = set(t, m)
			case k == 9:
				addr, bus := uint16(r.Intn(1<<16)), uint8(r.Intn(256))
				if got, want := x.Read(addr, bus), m.read(addr, bus); got != want {
					t.Fatalf("P21.1: Read(%X, %X): %X, not %X", addr, bus, got, want)
				}
			default:
				step(t, "P21.1", x, m)
			}
			has(t, "P21.1", x, m)
		}
	}
}

func TestNilTia(t *testing.T) {
	var x *tia.Tia
	if x.Step() != (tia.Dot{}) || x.Read(6, 0xFF) != 0 || x.Read(0x0F, 0xFF) != 0 || x.Read(0x0C, 0xFF) != 0 {
		t.Error("P21.2: a nil chip tells something")
	}
	for addr := range uint16(64) {
		x.Store(addr, 0xFF)
	}
	for n := -1; n < 7; n++ {
		x.In(n, 0)
	}
	if x.Waits() || x.Counts() != [5]int{} || len(x.Words()) != 0 || x.Copy() != nil {
		t.Error("P21.2: a nil chip has something")
	}
	for _, w := range [][]int{nil, make([]int, 80), atPowerOn(0).w[:], slices.Repeat([]int{-1}, 81)} {
		if e := x.Set(w); e != api.ErrArg {
			t.Errorf("P21.2: Set of nil: %d", e)
		}
	}
}
