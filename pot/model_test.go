package pot_test

import (
	"testing"

	"woodgrain/api"
	"woodgrain/pot"
)

// model are ports as the chapter's words say them.
type model struct {
	values  [4]int
	charge  int
	dumped  bool
	high    [2]bool
	latched bool
	latch   [2]bool
}

func atPowerOn() model { return model{high: [2]bool{true, true}, latch: [2]bool{true, true}} }

func (m *model) in(n int, v uint8) {
	switch n {
	case 0, 1, 2, 3:
		m.values[n] = int(v)
	case 4, 5:
		was := m.high[n-4]
		m.high[n-4] = v >= 128
		if becomesLow := was && v < 128; becomesLow && m.latched {
			m.latch[n-4] = false
		}
	}
}

func (m *model) line() {
	if !m.dumped && m.charge < 511 {
		m.charge++
	}
}

func (m *model) dump(on bool) {
	if on {
		m.charge = 0
	}
	m.dumped = on
}

func (m *model) latchAll(on bool) {
	m.latched = on
	for i := range m.latch {
		if !on {
			m.latch[i] = true
		} else if !m.high[i] {
			m.latch[i] = false
		}
	}
}

func (m model) isHigh(n int) bool {
	switch n {
	case 0, 1, 2, 3:
		return !m.dumped && m.charge > m.values[n]
	case 4, 5:
		if m.latched {
			return m.latch[n-4]
		}
		return m.high[n-4]
	}
	return false
}

func one(is bool) int {
	if is {
		return 1
	}
	return 0
}

func (m model) words() [11]int {
	v := m.values
	return [11]int{
		v[0], v[1], v[2], v[3], m.charge, one(m.dumped), one(m.high[0]), one(m.high[1]),
		one(m.latched), one(m.latch[0]), one(m.latch[1]),
	}
}

// of is the model that has these words.
func of(w [11]int) model {
	return model{
		values: [4]int(w[:4]), charge: w[4], dumped: w[5] == 1,
		high: [2]bool{w[6] == 1, w[7] == 1}, latched: w[8] == 1, latch: [2]bool{w[9] == 1, w[10] == 1},
	}
}

// has holds ports against what they should have.
func has(t *testing.T, promise string, p *pot.Pots, m model) {
	t.Helper()
	if p.Words() != m.words() {
		t.Fatalf("%s: they have %v, not %v", promise, p.Words(), m.words())
	}
	for n := -2; n <= 7; n++ {
		if p.High(n) != m.isHigh(n) {
			t.Fatalf("%s: of %v line %d is high: %v", promise, m.words(), n, p.High(n))
		}
	}
}

// set are ports that have these words.
func set(t *testing.T, w [11]int) *pot.Pots {
	t.Helper()
	p := pot.New()
	if e := p.Set(w); e != api.OK {
		t.Fatalf("P20.2: Set(%v): %d", w, e)
	}
	return p
}

// sensible are all words that can be, of the buttons, the latches and of
// whether they are dumped; each with a charge that can be, too.
func sensible() [][11]int {
	var all [][11]int
	for n := range 64 {
		w := [11]int{1, 2, 254, 255, 200, n & 1, n >> 1 & 1, n >> 2 & 1, n >> 3 & 1, n >> 4 & 1, n >> 5}
		if w[5] == 1 {
			w[4] = 0
		}
		if buttonCanBe(w[6], w[8], w[9]) && buttonCanBe(w[7], w[8], w[10]) {
			all = append(all, w)
		}
	}
	return all
}

func buttonCanBe(high, latched, latch int) bool {
	switch {
	case latched == 0:
		return latch == 1
	case high == 0:
		return latch == 0
	}
	return true
}
