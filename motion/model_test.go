package motion_test

import (
	"testing"

	"woodgrain/motion"
)

// model is a motion as the chapter's words say it.
type model struct {
	busy        bool
	count, gone int
	moving      [5]bool
}

func (m *model) strobe() { *m = model{busy: true, moving: [5]bool{true, true, true, true, true}} }

func (m *model) step(clock int, nibbles [5]uint8) (told [5]bool) {
	if !m.busy {
		return told
	}
	if m.gone < 3 {
		m.gone++
		return told
	}
	if clock%4 != 0 {
		return told
	}
	for thing, is := range m.moving {
		if int(nibbles[thing]%16^8) == m.count {
			m.moving[thing] = false
		} else if is {
			told[thing] = true
		}
	}
	if m.count++; m.count > 15 {
		*m = model{}
	}
	return told
}

func (m model) words() [3]int {
	if !m.busy {
		return [3]int{16, 0, 0}
	}
	w := [3]int{m.count, m.gone, 0}
	for thing, is := range m.moving {
		if is {
			w[2] += 1 << thing
		}
	}
	return w
}

// of is the model that has these words.
func of(w [3]int) model {
	m := model{busy: w[0] < 16}
	if m.busy {
		m.count, m.gone = w[0], w[1]
	}
	for thing := range m.moving {
		m.moving[thing] = w[2]>>thing%2 == 1
	}
	return m
}

// has holds a motion against what it should have.
func has(t *testing.T, promise string, x *motion.Motion, m model) {
	t.Helper()
	if x.Words() != m.words() || x.Busy() != m.busy {
		t.Fatalf("%s: it has %v, under way %v, not %v", promise, x.Words(), x.Busy(), m.words())
	}
}

// both are stepped; what they tell and have is held against each other.
func both(t *testing.T, x *motion.Motion, m *model, clock int, nibbles [5]uint8) {
	t.Helper()
	was := m.words()
	got, want := x.Step(clock, nibbles), m.step(clock, nibbles)
	if got != want {
		t.Fatalf("P17.1: of %v Step(%d, %v) tells %v, not %v", was, clock, nibbles, got, want)
	}
	has(t, "P17.1", x, *m)
}

// isDark: does a thing stand still at a clock of a line, on which a strobe came
// ahead of that clock or not?
func isDark(clock int, late bool) bool { return clock < 68 || late && clock < 76 }

// ahead lets a thing go over two lines, on the first of which a strobe comes
// ahead of a clock (or never): how many ticks it had, moved ones too.
func ahead(strobe int, nibble uint8) int {
	m, ticks := motion.New(), 0
	for at := range 2 * 228 {
		late := at < 228 && strobe >= 1 && strobe <= 75 && at >= strobe
		if at == strobe {
			m.Strobe()
		}
		moved := m.Step(at%228, [5]uint8{nibble})[0]
		if moved || !isDark(at%228, late) {
			ticks++
		}
	}
	return ticks
}
