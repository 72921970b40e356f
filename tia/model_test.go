package tia_test

import (
	"slices"
	"testing"

	"woodgrain/api"
	"woodgrain/pot"
	"woodgrain/tia"
	"woodgrain/tone"
)

// Where the words stand.
const (
	aClock   = 0
	aLate    = 1
	aMotion  = 2
	aThings  = 5
	aVoices  = 20
	aPorts   = 36
	aVSYNC   = 47
	aVBLANK  = 48
	aNUSIZ   = 49
	aColours = 51
	aCTRLPF  = 55
	aREFP    = 56
	aPF      = 58
	aGRP     = 61
	aENAM    = 65
	aENABL   = 67
	aHM      = 69
	aVDEL    = 74
	aRESMP   = 77
	aMet     = 79
	aWaits   = 80
	many     = 81
)

// model is a chip as the chapter's words say it: it is nothing but the words.
type model struct{ w [many]int }

func atPowerOn(clock int) *model {
	m := &model{}
	m.w[aClock], m.w[aMotion] = clock, 16
	for n := range 5 {
		m.w[aThings+3*n+1], m.w[aThings+3*n+2] = 255, 255
	}
	m.w[aPorts+6], m.w[aPorts+7], m.w[aPorts+9], m.w[aPorts+10] = 1, 1, 1, 1
	return m
}

func (m *model) copy() *model {
	other := *m
	return &other
}

func one(is bool) int {
	if is {
		return 1
	}
	return 0
}

var starts = [8][]int{{0}, {0, 16}, {0, 32}, {0, 16, 32}, {0, 64}, {0}, {0, 32, 64}, {0}}

// shape tells a thing's copies, its width (of a player of one bit), and its lead.
func (m *model) shape(thing int) (copies, width, lead int) {
	if thing == 4 {
		return 0, 1 << (m.w[aCTRLPF] / 16 % 4), 4
	}
	nusiz := m.w[aNUSIZ+thing%2]
	copies = nusiz % 8
	switch {
	case thing >= 2:
		return copies, 1 << (nusiz / 16 % 4), 4
	case copies == 5:
		return copies, 2, 6
	case copies == 7:
		return copies, 4, 6
	}
	return copies, 1, 5
}

func (m *model) tick(thing int) {
	copies, _, _ := m.shape(thing)
	w := m.w[aThings+3*thing:]
	count, younger, elder := (w[0]+1)%160, min(w[1]+1, 255), min(w[2]+1, 255)
	if slices.Contains(starts[copies], count) {
		younger, elder = 0, younger
	}
	if younger >= 8 {
		elder = 255
	}
	w[0], w[1], w[2] = count, younger, elder
}

func (m *model) dot(thing int) int {
	_, _, lead := m.shape(thing)
	w := m.w[aThings+3*thing:]
	switch {
	case w[1] >= lead:
		return w[1] - lead
	case w[2] >= lead:
		return w[2] - lead
	}
	return -1
}

// hasDot: has a thing a dot of that number, as its registers are?
func (m *model) hasDot(thing, dot int) bool {
	_, width, _ := m.shape(thing)
	old := 0
	if thing < 2 || thing == 4 {
		old = m.w[aVDEL+min(thing, 2)] % 2
	}
	switch thing {
	case 0, 1:
		if dot < 0 || dot >= 8*width {
			return false
		}
		bit := 7 - dot/width
		if m.w[aREFP+thing]/8%2 == 1 {
			bit = dot / width
		}
		return m.w[aGRP+2*thing+old]>>bit%2 == 1
	case 2, 3:
		on := m.w[aENAM+thing-2]/2%2 == 1 && m.w[aRESMP+thing-2]/2%2 == 0
		return on && dot >= 0 && dot < width
	}
	return m.w[aENABL+old] == 1 && dot >= 0 && dot < width
}

// lit: is the field lit at x?
func (m *model) lit(x int) bool {
	var row []bool
	for n := 4; n < 8; n++ {
		row = append(row, m.w[aPF]>>n%2 == 1)
	}
	for n := 7; n >= 0; n-- {
		row = append(row, m.w[aPF+1]>>n%2 == 1)
	}
	for n := range 8 {
		row = append(row, m.w[aPF+2]>>n%2 == 1)
	}
	if x < 80 {
		return row[x/4]
	}
	if m.w[aCTRLPF]%2 == 1 {
		slices.Reverse(row)
	}
	return row[(x-80)/4]
}

// paint tells of six dots (P0, P1, M0, M1, BL, PF) the colour and the pairs.
func (m *model) paint(d [6]bool, x int) (colour uint8, pairs int) {
	p0, p1, m0, m1, bl, pf := d[0], d[1], d[2], d[3], d[4], d[5]
	for n, meet := range []bool{
		m0 && p1, m0 && p0, m1 && p0, m1 && p1, p0 && pf, p0 && bl, p1 && pf, p1 && bl,
		m0 && pf, m0 && bl, m1 && pf, m1 && bl, bl && pf, p0 && p1, m0 && m1,
	} {
		pairs |= one(meet) << n
	}
	control := m.w[aCTRLPF]
	score, above := control/2%2 == 1, control/4%2 == 1
	which := 3
	switch {
	case above && (bl || pf):
		which = 2
	case p0 || m0:
		which = 0
	case p1 || m1:
		which = 1
	case bl:
		which = 2
	case pf && score && x < 80:
		which = 0
	case pf && score:
		which = 1
	case pf:
		which = 2
	}
	return uint8(m.w[aColours+which]) &^ 1, pairs
}

// move does the step of the motion: which things are told to move?
func (m *model) move() (told [5]bool) {
	w := m.w[aMotion:]
	switch {
	case w[0] == 16:
		return told
	case w[1] < 3:
		w[1]++
		return told
	case m.w[aClock]%4 != 0:
		return told
	}
	for n := range told {
		if w[2]>>n%2 == 0 {
			continue
		}
		if m.w[aHM+n]/16^8 == w[0] {
			w[2] -= 1 << n
		} else {
			told[n] = true
		}
	}
	if w[0]++; w[0] == 16 {
		w[1], w[2] = 0, 0
	}
	return told
}

func (m *model) voice(n int, do func(*tone.Voice)) (level uint8) {
	v := tone.New()
	w := m.w[aVoices+8*n:]
	v.Set([8]int(w[:8]))
	do(v)
	words := v.Words()
	copy(w, words[:])
	return v.Level()
}

func (m *model) ports(do func(*pot.Pots)) {
	p := pot.New()
	w := m.w[aPorts:]
	p.Set([11]int(w[:11]))
	do(p)
	words := p.Words()
	copy(w, words[:])
}

func (m *model) in(n int, v uint8) { m.ports(func(p *pot.Pots) { p.In(n, v) }) }

func (m *model) step() tia.Dot {
	w := &m.w
	d := tia.Dot{Clock: w[aClock], Begins: w[aClock] == 0}
	if d.Begins {
		w[aLate], w[aWaits] = 0, 0
		m.ports((*pot.Pots).Line)
	}
	dark := d.Clock < 68 || w[aLate] == 1 && d.Clock < 76
	for n, told := range m.move() {
		if told && dark {
			m.tick(n)
		}
	}
	d.Blank = dark || w[aVBLANK]/2%2 == 1
	d.Sync = d.Clock >= 20 && d.Clock <= 35 || w[aVSYNC]/2%2 == 1
	if !dark {
		var dots [6]bool
		for n := range 5 {
			dots[n] = m.hasDot(n, m.dot(n))
		}
		dots[5] = m.lit(d.Clock - 68)
		colour, pairs := m.paint(dots, d.Clock-68)
		w[aMet] |= pairs
		if !d.Blank {
			d.Pixel = colour
		}
		for n := range 5 {
			m.tick(n)
		}
	}
	for n := range 2 {
		d.Audio += m.voice(n, func(v *tone.Voice) {
			if d.Clock == 57 || d.Clock == 171 {
				v.Tick()
			}
		})
	}
	w[aClock] = (w[aClock] + 1) % 228
	return d
}

// registers tells which word is a byte that an address writes.
func register(addr uint16) (at int, is bool) {
	switch {
	case addr < 2:
		return aVSYNC + int(addr), true
	case addr >= 4 && addr < 0x10:
		return aNUSIZ + int(addr) - 4, true
	case addr == 0x1B || addr == 0x1C:
		return aGRP + 2*(int(addr)-0x1B), true
	case addr == 0x1D || addr == 0x1E:
		return aENAM + int(addr) - 0x1D, true
	case addr >= 0x20 && addr < 0x2A:
		return aHM + int(addr) - 0x20, true
	}
	return 0, false
}

func (m *model) store(addr uint16, v uint8) {
	w := &m.w
	addr %= 64
	was := *w
	if at, is := register(addr); is {
		w[at] = int(v)
	}
	switch {
	case addr == 0x01:
		m.ports(func(p *pot.Pots) { p.Dump(v >= 128) })
		m.ports(func(p *pot.Pots) { p.Latch(v/64%2 == 1) })
	case addr == 0x02:
		w[aWaits] = 1
	case addr == 0x03:
		w[aClock] = 0
	case addr >= 0x10 && addr <= 0x14:
		w[aThings+3*int(addr-0x10)] = 0
	case addr >= 0x15 && addr <= 0x1A:
		set := []func(*tone.Voice, uint8){(*tone.Voice).Control, (*tone.Voice).Rate, (*tone.Voice).Volume}[(addr-0x15)/2]
		m.voice(int(addr-0x15)%2, func(x *tone.Voice) { set(x, v) })
	case addr == 0x1B:
		w[aGRP+3] = was[aGRP+2]
	case addr == 0x1C:
		w[aGRP+1] = was[aGRP]
		w[aENABL+1] = was[aENABL]
	case addr == 0x1F:
		w[aENABL] = int(v) / 2 % 2
	case addr == 0x28 || addr == 0x29:
		player := int(addr - 0x28)
		if was[aRESMP+player]/2%2 == 1 && v/2%2 == 0 {
			_, width, _ := m.shape(player)
			less := map[int]int{1: 5, 2: 10, 4: 18}[width]
			w[aThings+3*(2+player)] = (w[aThings+3*player] + 160 - less) % 160
		}
	case addr == 0x2A:
		w[aMotion], w[aMotion+1], w[aMotion+2] = 0, 0, 31
		w[aLate] = 1
	case addr == 0x2B:
		for n := range 5 {
			w[aHM+n] = 0
		}
	case addr == 0x2C:
		w[aMet] = 0
	}
}

func (m *model) read(addr uint16, bus uint8) uint8 {
	n := int(addr % 16)
	high, low := 0, 0
	switch {
	case n < 6:
		high, low = m.w[aMet]>>(2*n)%2, m.w[aMet]>>(2*n+1)%2
	case n == 6:
		high = m.w[aMet] >> 12 % 2
	case n == 7:
		high, low = m.w[aMet]>>13%2, m.w[aMet]>>14
	case n < 14:
		m.ports(func(p *pot.Pots) { high = one(p.High(n - 8)) })
		return uint8(high)<<7 | bus&0x7F
	default:
		return bus
	}
	return uint8(high)<<7 | uint8(low)<<6 | bus&0x3F
}

// has holds a chip against what it should have.
func has(t *testing.T, promise string, x *tia.Tia, m *model) {
	t.Helper()
	w := x.Words()
	if len(w) != many {
		t.Fatalf("%s: it has %d words", promise, len(w))
	}
	for at, n := range w {
		if n != m.w[at] {
			t.Fatalf("%s: its word %d is %d, not %d", promise, at, n, m.w[at])
		}
	}
	for n, count := range x.Counts() {
		if count != m.w[aThings+3*n] {
			t.Fatalf("%s: thing %d has the count %d, not %d", promise, n, count, m.w[aThings+3*n])
		}
	}
	if x.Waits() != (m.w[aWaits] == 1) {
		t.Fatalf("%s: it is asked to wait: %v", promise, x.Waits())
	}
}

// step does a step of both, and holds what they tell against each other.
func step(t *testing.T, promise string, x *tia.Tia, m *model) tia.Dot {
	t.Helper()
	d, want := x.Step(), m.step()
	if d != want {
		t.Fatalf("%s: it tells %v, not %v", promise, d, want)
	}
	return d
}

// set is a chip that has a model's words.
func set(t *testing.T, m *model) *tia.Tia {
	t.Helper()
	x := tia.New(0)
	if e := x.Set(m.w[:]); e != api.OK {
		t.Fatalf("P21.2: Set(%v): %d", m.w, e)
	}
	return x
}
