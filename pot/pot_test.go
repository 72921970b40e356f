package pot_test

import (
	"math"
	"math/rand"
	"testing"

	"woodgrain/api"
	"woodgrain/pot"
)

func lines(p *pot.Pots, n int) {
	for range n {
		p.Line()
	}
}

func TestNew(t *testing.T) {
	p, q := pot.New(), pot.New()
	has(t, "P20.1", p, atPowerOn())
	if p.Words() != [11]int{0, 0, 0, 0, 0, 0, 1, 1, 0, 1, 1} {
		t.Errorf("P20.1, P20.2: at power-on %v", p.Words())
	}
	for n, want := range []bool{false, false, false, false, true, true} {
		if p.High(n) != want {
			t.Errorf("P20.1: at power-on line %d is high: %v", n, p.High(n))
		}
	}
	q.In(0, 9)
	q.In(5, 0)
	q.Line()
	has(t, "R5", p, atPowerOn())
}

func TestExamples(t *testing.T) {
	p := pot.New()
	p.In(0, 2)
	p.Dump(true)
	p.Dump(false)
	lines(p, 2)
	if p.High(0) {
		t.Error("P20.1: behind two lines a paddle of 2 is high")
	}
	if p.Line(); !p.High(0) {
		t.Error("P20.1: behind three lines a paddle of 2 is not high")
	}
	p = pot.New()
	p.Latch(true)
	p.In(4, 0)
	p.In(4, 0x80)
	if p.High(4) {
		t.Error("P20.1: a latched button that was low is high")
	}
	if p.Latch(false); !p.High(4) {
		t.Error("P20.1: not latched any more, it is not high")
	}
}

// What is handed in goes to one paddle or one button, and to nothing for other
// lines.
func TestIn(t *testing.T) {
	for n := -3; n < 10; n++ {
		for v := range 256 {
			for _, w := range [][11]int{{0, 0, 0, 0, 0, 0, 1, 1, 0, 1, 1}, {9, 8, 7, 6, 8, 0, 0, 0, 0, 1, 1}} {
				p, m := set(t, w), of(w)
				p.In(n, uint8(v))
				switch {
				case n >= 0 && n < 4:
					w[n] = v
				case n == 4 || n == 5:
					w[n+2] = v >> 7
				}
				if p.Words() != w {
					t.Fatalf("P20.1: In(%d, %d): %v, not %v", n, v, p.Words(), w)
				}
				m.in(n, uint8(v))
				has(t, "P20.1", p, m)
			}
		}
	}
	for _, w := range sensible() {
		for _, n := range []int{-1, 6, 7, 256, 260, 1 << 32, 1<<32 + 4, math.MinInt, math.MinInt + 4, math.MaxInt} {
			for _, v := range []uint8{0, 127, 128, 255} {
				p := set(t, w)
				p.In(n, v)
				has(t, "P20.1", p, of(w))
			}
		}
	}
}

// Each button by each level that is driven, latched and not, by each of its latches.
func TestButtons(t *testing.T) {
	for _, w := range sensible() {
		for n := 4; n < 6; n++ {
			for _, v := range []uint8{0, 1, 0x40, 0x7F, 0x80, 0x81, 0xC0, 0xFF} {
				p := set(t, w)
				p.In(n, v)
				want := w
				want[n+2] = int(v >> 7)
				if w[8] == 1 && v < 0x80 {
					want[n+5] = 0
				}
				has(t, "P20.1", p, of(want))
			}
		}
	}
}

func TestLatchedButton(t *testing.T) {
	p := pot.New()
	high := func(what string, button4, button5 bool) {
		t.Helper()
		if p.High(4) != button4 || p.High(5) != button5 {
			t.Errorf("P20.1: %s: %v and %v", what, p.High(4), p.High(5))
		}
	}
	p.In(4, 0)
	high("low, not latched", false, true)
	p.In(4, 0xFF)
	high("high again, not latched", true, true)
	p.Latch(true)
	high("latched while high", true, true)
	p.In(5, 0xFF)
	high("high, that is high", true, true)
	p.In(5, 0)
	high("becomes low while latched", true, false)
	p.In(5, 0)
	high("low, that is low", true, false)
	p.In(5, 0xFF)
	high("becomes high while latched", true, false)
	p.Latch(true)
	high("latched anew while high", true, false)
	p.In(4, 0)
	p.Latch(false)
	high("not latched: as the buttons are", false, true)
	p.Latch(true)
	high("latched while low", false, true)
	p.In(4, 0x80)
	high("latched while low, then high", false, true)
	p.Latch(false)
	high("not latched, high", true, true)
	p.Latch(false)
	high("not latched, twice", true, true)
	p.Latch(true)
	high("the latches are set anew", true, true)
}

func TestLatch(t *testing.T) {
	for _, w := range sensible() {
		p := set(t, w)
		p.Latch(true)
		on := w
		on[8] = 1
		for i := range 2 {
			if on[6+i] == 0 {
				on[9+i] = 0
			}
		}
		for range 2 {
			has(t, "P20.1", p, of(on))
			p.Latch(true)
		}
		p.Latch(false)
		off := w
		off[8], off[9], off[10] = 0, 1, 1
		for range 2 {
			has(t, "P20.1", p, of(off))
			p.Latch(false)
		}
	}
}

func TestDump(t *testing.T) {
	for charge := range 512 {
		w := [11]int{0, 1, 254, 255, charge, 0, 1, 0, 1, 0, 0}
		p := set(t, w)
		p.Dump(false) // off while it is off: the charge stays
		has(t, "P20.1", p, of(w))
		dumped := w
		dumped[4], dumped[5] = 0, 1
		for range 2 { // twice the same
			p.Dump(true)
			has(t, "P20.1", p, of(dumped))
			lines(p, 3) // no charge, while it is dumped
			has(t, "P20.1", p, of(dumped))
		}
		ended := w
		ended[4] = 0
		for range 2 {
			p.Dump(false)
			has(t, "P20.1", p, of(ended))
			p.Line()
			ended[4]++
			has(t, "P20.1", p, of(ended))
		}
	}
}

func TestLine(t *testing.T) {
	p, m := pot.New(), atPowerOn()
	for n, v := range []uint8{0, 1, 254, 255} {
		p.In(n, v)
		m.values[n] = int(v)
	}
	for n := range 600 {
		m.charge = min(n, 511)
		has(t, "P20.1", p, m)
		p.Line()
	}
	for _, x := range [][2]int{{0, 1}, {509, 510}, {510, 511}, {511, 511}} {
		p := set(t, [11]int{0, 0, 0, 0, x[0], 0, 1, 1, 0, 1, 1})
		if p.Line(); p.Words()[4] != x[1] {
			t.Errorf("P20.1: a line behind the charge %d: %d", x[0], p.Words()[4])
		}
	}
}

// Which paddles are high: those of a value below the charge.
func TestHighOfPaddles(t *testing.T) {
	for value := range 256 {
		for _, charge := range []int{0, 1, value - 1, value, value + 1, 255, 256, 510, 511} {
			if charge < 0 {
				continue
			}
			for n := range 4 {
				w := [11]int{255, 255, 255, 255, charge, 0, 1, 1, 0, 1, 1}
				w[n] = value
				p := set(t, w)
				for range 2 { // to ask changes nothing
					if p.High(n) != (charge > value) {
						t.Errorf("P20.1: paddle %d of %d with a charge of %d is high: %v", n, value, charge, p.High(n))
					}
					has(t, "P20.1", p, of(w))
				}
			}
		}
	}
}

func TestHighOfOtherLines(t *testing.T) {
	for _, w := range sensible() {
		p := set(t, w)
		for _, n := range []int{-1, -2, -4, 6, 7, 8, 256, 260, 1 << 32, 1<<32 + 4, math.MinInt, math.MaxInt} {
			if p.High(n) {
				t.Errorf("P20.1: line %d is high", n)
			}
		}
		has(t, "P20.1", p, of(w))
	}
}

func TestLongRuns(t *testing.T) {
	for seed := range int64(20) {
		r := rand.New(rand.NewSource(seed))
		p, m := pot.New(), atPowerOn()
		for range 20000 {
			on := r.Intn(2) == 1
			switch k := r.Intn(100 + 40*int(seed)); {
			case k < 8:
				n, v := r.Intn(8)-1, uint8(r.Intn(256))
				p.In(n, v)
				m.in(n, v)
			case k < 10:
				p.Dump(on)
				m.dump(on)
			case k < 16:
				p.Latch(on)
				m.latchAll(on)
			case k == 16:
				p = p.Copy()
			case k == 17:
				p = set(t, p.Words())
			default:
				p.Line()
				m.line()
			}
			has(t, "P20.1", p, m)
		}
	}
}

// most are the ends of the words.
var most = [11]int{255, 255, 255, 255, 511, 1, 1, 1, 1, 1, 1}

func TestSetTakesAllThatCanBe(t *testing.T) {
	for _, w := range sensible() {
		for place, last := range most[:5] {
			if place == 4 && w[5] == 1 {
				continue
			}
			for n := range last + 1 {
				w[place] = n
				p := pot.New()
				p.In(n%6, uint8(n))
				if e := p.Set(w); e != api.OK {
					t.Fatalf("P20.2: Set(%v): %d", w, e)
				}
				has(t, "P20.2", p, of(w))
			}
		}
	}
}

// All of the last seven words, sensible or not.
func TestSetHoldsWordsAgainstOneAnother(t *testing.T) {
	good := [11]int{9, 8, 7, 6, 500, 0, 1, 0, 1, 0, 0}
	for n := range 64 {
		for _, charge := range []int{0, 1, 2, 510, 511} {
			w := [11]int{1, 2, 3, 4, charge, n & 1, n >> 1 & 1, n >> 2 & 1, n >> 3 & 1, n >> 4 & 1, n >> 5}
			can := buttonCanBe(w[6], w[8], w[9]) && buttonCanBe(w[7], w[8], w[10]) && !(w[5] == 1 && charge > 0)
			p := set(t, good)
			e := p.Set(w)
			if can {
				has(t, "P20.2", p, of(w))
			} else {
				has(t, "R2", p, of(good))
			}
			if (e == api.OK) != can || !can && e != api.ErrRange {
				t.Errorf("P20.2: Set(%v): %d", w, e)
			}
		}
	}
}

func TestSetRefuses(t *testing.T) {
	for _, good := range [][11]int{{0, 0, 0, 0, 0, 0, 1, 1, 0, 1, 1}, {200, 100, 50, 25, 511, 0, 0, 1, 1, 0, 0}, {1, 2, 3, 4, 0, 1, 1, 1, 1, 0, 1}} {
		p := set(t, good)
		for place, last := range most {
			for _, n := range []int{-1, -2, -256, last + 1, last + 2, last + 256, 512, 1 << 16, 1 << 32, 1<<32 + 1, math.MinInt, math.MaxInt} {
				w := [11]int{5, 6, 7, 8, 0, 0, 1, 1, 1, 1, 1}
				w[place] = n
				if e := p.Set(w); e != api.ErrRange {
					t.Errorf("P20.2: Set(%v): %d", w, e)
				}
				has(t, "R2", p, of(good))
			}
		}
	}
}

// Ports that were set, and a copy, go on as those do whose words they have.
func TestWordsFromOneSetInAnother(t *testing.T) {
	for _, w := range sensible() {
		for _, v := range []uint8{0x7F, 0x80} {
			p, m := set(t, w), of(w)
			q, r := p.Copy(), set(t, p.Words())
			each := func(do func(p *pot.Pots)) {
				t.Helper()
				for _, x := range []*pot.Pots{p, q, r} {
					do(x)
					has(t, "P20.2", x, m)
				}
			}
			m.in(4, v)
			each(func(p *pot.Pots) { p.In(4, v) })
			m.line()
			each((*pot.Pots).Line)
			m.in(5, v)
			each(func(p *pot.Pots) { p.In(5, v) })
			m.dump(v == 0x80)
			each(func(p *pot.Pots) { p.Dump(v == 0x80) })
			m.line()
			each((*pot.Pots).Line)
			m.latchAll(v == 0x80)
			each(func(p *pot.Pots) { p.Latch(v == 0x80) })
			m.in(4, ^v)
			each(func(p *pot.Pots) { p.In(4, ^v) })
		}
	}
}

// Neither ports nor their copy go on with the other ones.
func TestCopy(t *testing.T) {
	for _, w := range sensible() {
		p := set(t, w)
		q := p.Copy()
		if p == q {
			t.Fatal("P20.2: a copy is the ports themselves")
		}
		has(t, "P20.2", q, of(w))
		m := of(w)
		for n := range 6 {
			p.In(n, 77)
			m.in(n, 77)
		}
		p.Dump(true)
		m.dump(true)
		p.Latch(true)
		m.latchAll(true)
		has(t, "P20.2", q, of(w))
		q.In(3, 9)
		q.In(4, 0xFF)
		q.Dump(false)
		q.Latch(false)
		q.Line()
		has(t, "P20.2", p, m)
		q.Set([11]int{1, 1, 1, 1, 1, 0, 0, 0, 1, 0, 0})
		has(t, "P20.2", p, m)
	}
}

// A paddle of value v is high from v + 1 lines behind the end of a dump on.
func TestPaddleBehindADump(t *testing.T) {
	for v := range 256 {
		for n := range 4 {
			p := pot.New()
			p.In(n, uint8(v))
			lines(p, v*3)
			p.Dump(true)
			lines(p, 300)
			if p.High(n) {
				t.Fatalf("P20.3: paddle %d of %d is high while it is dumped", n, v)
			}
			p.Dump(false)
			for k := range 700 {
				if p.High(n) != (k >= v+1) {
					t.Fatalf("P20.3: paddle %d of %d, %d lines behind a dump, is high: %v", n, v, k, p.High(n))
				}
				p.Line()
			}
		}
	}
}

func TestNilPots(t *testing.T) {
	var p *pot.Pots
	for n := -1; n < 7; n++ {
		p.In(n, 200)
		if p.High(n) {
			t.Errorf("P20.2: line %d of nil is high", n)
		}
	}
	p.Line()
	p.Dump(true)
	p.Dump(false)
	p.Latch(true)
	p.Latch(false)
	if p.Words() != [11]int{} || p.Copy() != nil {
		t.Error("P20.2: nil ports have something")
	}
	for _, w := range [][11]int{{}, {0, 0, 0, 0, 0, 0, 1, 1, 0, 1, 1}, most, {256}} {
		if e := p.Set(w); e != api.ErrArg {
			t.Errorf("P20.2: Set(%v) of nil: %d", w, e)
		}
	}
}
