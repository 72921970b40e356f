package riot_test

import (
	"math"
	"slices"
	"testing"

	"woodgrain/api"
	"woodgrain/riot"
)

// reads holds what an address reads against what it should.
func reads(t *testing.T, promise string, r *riot.Riot, addr uint16, want uint8) {
	t.Helper()
	if b := r.Read(addr); b != want {
		t.Errorf("%s: Read(%x): %x, not %x", promise, addr, b, want)
	}
}

func ticks(r *riot.Riot, n int) {
	for range n {
		r.Tick()
	}
}

func TestPowerOn(t *testing.T) {
	ram := someRam()
	r := riot.New(ram)
	want := make([]int, 0, 142)
	for _, b := range ram {
		want = append(want, int(b))
	}
	want = append(want, 255, 0, 0, 255, 0, 0, 255, 1024, 1, 0, 0, 1, 0, 0)
	if w := r.Words(); !slices.Equal(w, want) {
		t.Errorf("P8.1: at power-on the words are %v", w)
	}
	if r.Ram() != ram || r.Timer() != 255 {
		t.Errorf("P8.2: at power-on Ram is %v, Timer %d", r.Ram(), r.Timer())
	}
	ram[0]++
	if r.Ram()[0] == ram[0] {
		t.Error("R4: the RAM that was handed in is kept")
	}
	for addr, b := range map[uint16]uint8{0x280: 255, 0x281: 0, 0x282: 255, 0x283: 0, 0x285: 0, 0x284: 255} {
		reads(t, "P8.1", r, addr, b)
	}
}

func TestExamples(t *testing.T) {
	r := riot.New([128]uint8{})
	r.Store(0x80, 5)
	reads(t, "P8.1", r, 0x180, 5)
	r.Store(0x295, 3)
	r.Tick()
	reads(t, "P8.1", r, 0x284, 2)
	r.In(0x7F, 0xFF)
	r.Tick()
	reads(t, "P8.1", r, 0x285, 0x40)
	reads(t, "P8.1", r, 0x285, 0)
}

func TestRam(t *testing.T) {
	r := riot.New(someRam())
	want := someRam()
	for at := range uint16(128) {
		for _, high := range []uint16{0, 0x80, 0x100, 0x180, 0x400, 0x1C00, 0xFD80} {
			reads(t, "P8.1", r, high+at, want[at])
			want[at] = uint8(high>>7) + uint8(at)*3 + 1
			r.Store(high+at, want[at])
			if r.Ram() != want {
				t.Fatalf("P8.1: Store(%x): the RAM is %v", high+at, r.Ram())
			}
		}
	}
	tail := r.Words()[128:]
	if !slices.Equal(tail, []int{255, 0, 0, 255, 0, 0, 255, 1024, 1, 0, 0, 1, 0, 0}) {
		t.Errorf("P8.1: writing the RAM leads to %v", tail)
	}
}

// TestRowsOfPorts: of these rows bit 2 and the lower two bits alone count.
func TestRowsOfPorts(t *testing.T) {
	for _, free := range []uint16{0, 0x08, 0x10, 0x80, 0x100, 0x1F8, 0x400, 0xFDF8} {
		r := riot.New([128]uint8{})
		r.In(0x0F, 0x3C)
		r.Store(0x200+free, 0xA5)
		r.Store(0x202+free, 0x96)
		reads(t, "P8.1", r, 0x200+free, 0x0F) // written, but no line goes out
		reads(t, "P8.1", r, 0x202+free, 0x3C)
		r.Store(0x201+free, 0xF0)
		reads(t, "P8.1", r, 0x200+free, 0xAF)
		reads(t, "P8.1", r, 0x202+free, 0x3C)
		r.Store(0x203+free, 0x0F)
		reads(t, "P8.1", r, 0x200+free, 0xAF)
		reads(t, "P8.1", r, 0x202+free, 0x36)
		reads(t, "P8.1", r, 0x201+free, 0xF0)
		reads(t, "P8.1", r, 0x203+free, 0x0F)
		if w := r.Words()[128:134]; !slices.Equal(w, []int{0x0F, 0xA5, 0xF0, 0x3C, 0x96, 0x0F}) {
			t.Errorf("P8.1: the ports' words are %v", w)
		}
	}
}

func TestIn(t *testing.T) {
	r := riot.New([128]uint8{})
	for v := range 256 {
		r.In(uint8(v), uint8(255-v))
		reads(t, "P8.1", r, 0x280, uint8(v))
		reads(t, "P8.1", r, 0x282, uint8(255-v))
	}
}

func TestTimerOfEachInterval(t *testing.T) {
	for number, p := range []int{1, 8, 64, 1024} {
		for _, free := range []uint16{0, 0x08, 0x60, 0x180, 0x5E8, 0xFDE8} { // bits 2, 4, 9 and the lower two count
			r := riot.New([128]uint8{})
			r.Store(0x214+uint16(number)+free, 3)
			if r.Timer() != 3 {
				t.Errorf("P8.1: written with interval %d: %d", p, r.Timer())
			}
			r.Tick()
			reads(t, "P8.1", r, 0x284, 2)
			ticks(r, p-1)
			if p > 1 {
				reads(t, "P8.1", r, 0x284, 2)
			}
			r.Tick()
			reads(t, "P8.1", r, 0x284, 1)
			ticks(r, p)
			reads(t, "P8.1", r, 0x284, 0)
			reads(t, "P8.1", r, 0x285, 0)
			ticks(r, p)
			reads(t, "P8.1", r, 0x285, 0x80)
			if r.Timer() != 255 {
				t.Errorf("P8.1: interval %d: behind 0 it is %d", p, r.Timer())
			}
			ticks(r, 5) // fast
			reads(t, "P8.1", r, 0x284, 250)
			reads(t, "P8.1", r, 0x285, 0)
			ticks(r, p)
			reads(t, "P8.1", r, 0x284, 249)
		}
	}
}

func TestRowsOfTimer(t *testing.T) {
	for _, addr := range []uint16{0x204, 0x206, 0x214, 0x216, 0x20C, 0x2FE, 0x3FE, 0x604, 0xFFFE} {
		r := riot.New([128]uint8{})
		r.Store(0x294, 0)
		r.Tick()
		reads(t, "P8.1", r, addr, 255)
		if w := r.Words()[134:139]; !slices.Equal(w, []int{255, 1, 1, 0, 0}) {
			t.Errorf("P8.1: Read(%x) leaves the timer at %v", addr, w)
		}
	}
}

// TestFlagAndEdgeInOne: reading tells both, takes the edge, and leaves the flag.
func TestFlagAndEdgeInOne(t *testing.T) {
	for _, addr := range []uint16{0x205, 0x207, 0x215, 0x217, 0x20D, 0x285, 0x2FF, 0x3FF, 0x605, 0xFFFF} {
		r := riot.New([128]uint8{})
		reads(t, "P8.1", r, addr, 0)
		r.In(0, 255)
		r.Store(0x294, 0)
		r.Tick()
		reads(t, "P8.1", r, addr, 0xC0)
		reads(t, "P8.1", r, addr, 0x80)
		reads(t, "P8.1", r, addr, 0x80)
		if w := r.Words()[134:]; !slices.Equal(w, []int{255, 1, 1, 1, 1, 0, 0, 0}) {
			t.Errorf("P8.1: Read(%x) leads to %v", addr, w)
		}
		reads(t, "P8.1", r, 0x284, 255)
		reads(t, "P8.1", r, addr, 0)
	}
}

func TestReadingTheTimerLeavesTheEdge(t *testing.T) {
	r := riot.New([128]uint8{})
	r.In(0, 255)
	r.Store(0x294, 0)
	r.Tick()
	r.Read(0x284)
	reads(t, "P8.1", r, 0x285, 0x40)
}

// TestRowOfEdge: bit 4 is not set, bit 0 alone tells, whatever byte is written.
func TestRowOfEdge(t *testing.T) {
	for _, free := range []uint16{0, 0x02, 0x08, 0xE0, 0x100, 0x1EA, 0x400, 0xFDEA} {
		for _, v := range []uint8{0, 1, 0x80, 255} {
			r := riot.New([128]uint8{})
			r.Store(0x205+free, v)
			if w := r.Words()[134:]; !slices.Equal(w, []int{255, 1024, 1, 0, 0, 1, 1, 0}) {
				t.Errorf("P8.1: Store(%x, %x) leads to %v", 0x205+free, v, w)
			}
			r.Store(0x204+free, v)
			if w := r.Words()[134:]; !slices.Equal(w, []int{255, 1024, 1, 0, 0, 1, 0, 0}) {
				t.Errorf("P8.1: Store(%x, %x) leads to %v", 0x204+free, v, w)
			}
		}
	}
}

func TestLine7FromOutside(t *testing.T) {
	r := riot.New([128]uint8{})
	r.In(0x7F, 255)
	reads(t, "P8.1", r, 0x285, 0) // no cycle yet: nothing was seen
	r.In(0xFF, 255)
	r.Tick()
	reads(t, "P8.1", r, 0x285, 0)
	r.In(0x80, 0) // other lines, and port B, are not looked at
	r.Tick()
	reads(t, "P8.1", r, 0x285, 0)
	r.In(0x7F, 255)
	r.Tick()
	r.Tick()
	reads(t, "P8.1", r, 0x285, 0x40)
	r.In(0x80, 255)
	r.Tick()
	reads(t, "P8.1", r, 0x285, 0) // falling is asked for
	r.Store(0x285, 0)
	r.In(0, 255)
	r.Tick()
	reads(t, "P8.1", r, 0x285, 0) // rising is
	r.In(0x80, 255)
	r.Tick()
	reads(t, "P8.1", r, 0x285, 0x40)
}

func TestLine7WrittenByThePort(t *testing.T) {
	r := riot.New([128]uint8{})
	r.Store(0x280, 0x7F) // no line goes out: nothing is to be seen of it
	r.Tick()
	reads(t, "P8.1", r, 0x285, 0)
	r.Store(0x281, 0x80) // the line is turned, and low by that
	r.Tick()
	reads(t, "P8.1", r, 0x285, 0x40)
	r.In(0, 255) // what is driven counts no more
	r.Tick()
	reads(t, "P8.1", r, 0x285, 0)
	r.Store(0x205, 0)
	r.Store(0x280, 0x80)
	r.Tick()
	reads(t, "P8.1", r, 0x285, 0x40)
	r.Store(0x282, 0)
	r.Store(0x283, 0x80) // line 7 of port B is another one
	r.Store(0x204, 0)
	r.Tick()
	reads(t, "P8.1", r, 0x285, 0)
	r.Store(0x281, 0) // turned again: 0 is driven
	r.Tick()
	reads(t, "P8.1", r, 0x285, 0x40)
}

func TestAskingChangesNothing(t *testing.T) {
	for _, m := range someModels() {
		r := m.riot(t)
		for range 3 {
			same(t, "P8.2", r, m)
		}
	}
}

func TestWordsSetInAnother(t *testing.T) {
	for _, m := range someModels() {
		one := m.riot(t)
		ticks(one, 5)
		other := riot.New([128]uint8{1: 2})
		other.In(1, 2)
		other.Store(0x295, 7)
		if e := other.Set(one.Words()); e != api.OK {
			t.Fatalf("P8.2: Set of another's words: %d", e)
		}
		for step := range 3000 {
			one.Tick()
			other.Tick()
			if step%7 == 0 {
				addr, v := uint16(step*13), uint8(step)
				one.Store(addr, v)
				other.Store(addr, v)
				one.In(v*3, v)
				other.In(v*3, v)
				if a, b := one.Read(addr*5), other.Read(addr*5); a != b {
					t.Fatalf("P8.2: Read(%x): %x and %x", addr*5, a, b)
				}
			}
			if !slices.Equal(one.Words(), other.Words()) {
				t.Fatalf("P8.2: behind %d cycles they are not the same", step+1)
			}
		}
	}
}

// disturb does something to each part.
func disturb(r *riot.Riot) {
	r.In(0x0C, 0xC0)
	r.Store(0x80, 0x5A)
	r.Store(0xFF, 0xA5)
	for i, addr := range []uint16{0x280, 0x281, 0x282, 0x283, 0x296, 0x285} {
		r.Store(addr, uint8(0x71+i))
	}
	ticks(r, 100)
}

func TestSetKeepsNoMemory(t *testing.T) {
	m := someModels()[1]
	list := append(m.words(), 77, 78)
	handed := list[:142]
	r := riot.New([128]uint8{})
	if e := r.Set(handed); e != api.OK {
		t.Fatalf("P8.2: Set: %d", e)
	}
	for i := range list[:142] {
		list[i] = 1
	}
	same(t, "R4", r, m)
	disturb(r)
	for i, n := range list {
		if want := []int{1, 77, 78}[max(0, i-141)]; n != want {
			t.Fatalf("R4: the list that was handed in has %d at %d", n, i)
		}
	}
	w := r.Words()
	again := slices.Clone(w)
	for i := range w {
		w[i] = -1
	}
	if !slices.Equal(r.Words(), again) {
		t.Error("R4: words that were handed out are kept")
	}
}

func TestTwoOfOnesWords(t *testing.T) {
	m := someModels()[2]
	one, other := m.riot(t), m.riot(t)
	disturb(one)
	same(t, "R4", other, m)
}

func TestSetOtherThan142(t *testing.T) {
	r := riot.New(someRam())
	m := newModel(someRam())
	good := someModels()[1].words()
	bad := slices.Repeat([]int{-1}, 300)
	for _, n := range []int{0, 1, 128, 140, 141, 143, 144, 284} {
		for _, w := range [][]int{slices.Repeat(good, 2)[:n], bad[:n]} {
			if e := r.Set(w); e != api.ErrArg {
				t.Errorf("P8.2: Set of %d words: %d", n, e)
			}
			same(t, "R2", r, m)
		}
	}
	if e := r.Set(nil); e != api.ErrArg {
		t.Errorf("P8.2: Set(nil): %d", e)
	}
	same(t, "R2", r, m)
}

// wrongWords are what a place of the words can't have.
func wrongWords(place int) []int {
	far := []int{math.MinInt, math.MaxInt, -1 << 40, 1 << 40, -256}
	switch {
	case place < 134: // the RAM, the ports
		return append(far, -1, 256, 257, 511)
	case place == 134:
		return append(far, -1, 256)
	case place == 135:
		return append(far, -8, 0, 2, 7, 9, 32, 512, 1025)
	case place == 136:
		return append(far, -1, 0, 65, 1024)
	}
	return append(far, -1, 2, 255)
}

func TestSetRefuses(t *testing.T) {
	m := someModels()[1] // an interval of 64 cycles
	good := m.words()
	r := m.riot(t)
	for i := range 128 {
		good[i] ^= 255
	}
	copy(good[128:], []int{1, 2, 3, 4, 5, 6, 7, 64, 32, 1, 0, 1, 1, 0})
	for place := range good {
		for _, n := range wrongWords(place) {
			w := slices.Clone(good)
			w[place] = n
			if e := r.Set(w); e != api.ErrRange {
				t.Errorf("P8.2: Set with %d at %d: %d", n, place, e)
			}
			same(t, "R2", r, m)
		}
	}
	ticks(r, 40)
	for range 40 {
		m.tick()
	}
	same(t, "R2", r, m)
	if e := r.Set(make([]int, 142)); e != api.ErrRange {
		t.Errorf("P8.2: Set of zeros, which no timer has: %d", e)
	}
	same(t, "R2", r, m)
	if e := r.Set(good); e != api.OK || !slices.Equal(r.Words(), good) {
		t.Errorf("P8.2: Set: %d, and the words are %v", e, r.Words())
	}
}

func TestSetTakesTheEnds(t *testing.T) {
	for _, p := range []int{1, 8, 64, 1024} {
		for _, left := range []int{1, p} {
			for _, b := range []int{0, 255} {
				w := slices.Repeat([]int{b}, 142)
				copy(w[134:], []int{b, p, left, b & 1, 1 - b&1, b & 1, 1 - b&1, b & 1})
				r := riot.New(someRam())
				if e := r.Set(w); e != api.OK || !slices.Equal(r.Words(), w) {
					t.Errorf("P8.2: Set(%v): %d, and the words are %v", w, e, r.Words())
				}
			}
		}
	}
}

func TestCopy(t *testing.T) {
	for _, m := range someModels() {
		r := m.riot(t)
		c := r.Copy()
		same(t, "P8.2", c, m)
		disturb(c)
		same(t, "P8.2", r, m)
		c = r.Copy()
		disturb(r)
		same(t, "P8.2", c, m)
		of := c.Copy().Copy()
		for range 2000 {
			c.Tick()
			of.Tick()
			if c.Read(0x285) != of.Read(0x285) || !slices.Equal(c.Words(), of.Words()) {
				t.Fatal("P8.2: a copy goes another way")
			}
		}
	}
}

// TestLower10Bits: one riot's addresses, and another's with other upper bits,
// are the same.
func TestLower10Bits(t *testing.T) {
	for high := range uint16(64) {
		one, other := riot.New(someRam()), riot.New(someRam())
		for low := range uint16(1024) {
			addr := high<<10 | low
			one.Store(low, uint8(low*3))
			other.Store(addr, uint8(low*3))
			if low%5 == 0 {
				one.Tick()
				other.Tick()
			}
			if a, b := one.Read(low^0x155), other.Read(addr^0x155); a != b {
				t.Fatalf("P8.3: Read(%x): %x and %x", addr^0x155, a, b)
			}
		}
		if !slices.Equal(one.Words(), other.Words()) {
			t.Fatalf("P8.3: addresses from %x on are others", high<<10)
		}
	}
}

func TestNilRiot(t *testing.T) {
	var r *riot.Riot
	r.Tick()
	r.In(1, 2)
	for addr := range 1 << 16 {
		r.Store(uint16(addr), 7)
		if r.Read(uint16(addr)) != 0 {
			t.Fatalf("P8.3: Read(%x) of nil is not 0", addr)
		}
	}
	if r.Ram() != [128]uint8{} || r.Timer() != 0 || len(r.Words()) != 0 || r.Copy() != nil {
		t.Error("P8.3: a nil riot has something")
	}
	for _, w := range [][]int{nil, riot.New([128]uint8{}).Words(), make([]int, 142), {1}} {
		if e := r.Set(w); e != api.ErrArg {
			t.Errorf("P8.3: Set of %d words of nil: %d", len(w), e)
		}
	}
}
