package tone_test

import (
	"testing"

	"woodgrain/api"
	"woodgrain/tone"
)

// model is a voice as the chapter's words say it.
type model struct {
	control, rate, volume int
	four, five, nine      int
	count                 int
	high                  bool
}

// step is a step of a poly, as layer 1 words it: the state behind it, and the
// bit that falls out.
func step(size, tap, state int) (next, out int) {
	next, out = state/2, state%2
	if out == state>>tap%2 {
		next += 1 << (size - 1)
	}
	return next, out
}

// stepsFrom0 is the state of a poly behind so many steps from 0.
func stepsFrom0(size, tap, steps int) int {
	state := 0
	for range steps {
		state, _ = step(size, tap, state)
	}
	return state
}

func (m *model) length() int {
	if m.control >= 12 {
		return 3 * (m.rate + 1)
	}
	return m.rate + 1
}

func (m *model) tick() {
	if m.count+1 < m.length() {
		m.count++
		return
	}
	m.count = 0
	m.beat()
}

func (m *model) beat() {
	var five, bit int
	m.five, five = step(5, 2, m.five)
	switch {
	case m.control%4 == 2 && m.five != 0 && m.five != stepsFrom0(5, 2, 18):
		return
	case m.control%4 == 3 && five == 0:
		return
	}
	switch m.control {
	case 4, 5, 6, 7, 12, 13, 14, 15:
		m.high = !m.high
		return
	case 8:
		m.nine, bit = step(9, 4, m.nine)
	case 9, 10, 11:
		bit = five
	case 0, 1, 2, 3:
		m.four, bit = step(4, 1, m.four)
	}
	m.high = bit == 1
}

func (m model) level() uint8 {
	if m.high || m.control == 0 || m.control == 11 {
		return uint8(m.volume)
	}
	return 0
}

func (m model) words() [8]int {
	w := [8]int{m.control, m.rate, m.volume, m.four, m.five, m.nine, m.count, 0}
	if m.high {
		w[7] = 1
	}
	return w
}

// of is the model that has these words.
func of(w [8]int) model { return model{w[0], w[1], w[2], w[3], w[4], w[5], w[6], w[7] == 1} }

// has holds a voice against what it should have.
func has(t *testing.T, promise string, v *tone.Voice, m model) {
	t.Helper()
	if v.Words() != m.words() || v.Level() != m.level() {
		t.Fatalf("%s: it has %v, and tells %d, not %v and %d", promise, v.Words(), v.Level(), m.words(), m.level())
	}
}

// set is a voice that has these words.
func set(t *testing.T, w [8]int) *tone.Voice {
	t.Helper()
	v := tone.New()
	if e := v.Set(w); e != api.OK {
		t.Fatalf("P19.2: Set(%v): %d", w, e)
	}
	return v
}

// oneTick holds a beat tick from these words against the model's.
func oneTick(t *testing.T, w [8]int) {
	t.Helper()
	v, m := set(t, w), of(w)
	v.Tick()
	m.tick()
	if v.Words() != m.words() || v.Level() != m.level() {
		t.Fatalf("P19.1: behind a tick from %v: %v, level %d, not %v, level %d", w, v.Words(), v.Level(), m.words(), m.level())
	}
}
