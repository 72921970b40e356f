package sprite_test

import (
	"math/rand"
	"slices"
	"testing"

	"woodgrain/api"
	"woodgrain/sprite"
)

// starts are the chapter's starts by the copies' number.
var starts = [8][]int{{0}, {0, 16}, {0, 32}, {0, 16, 32}, {0, 64}, {0}, {0, 32, 64}, {0}}

// model is a thing as the chapter's words say it: a count and two ages, no more.
type model struct{ count, younger, elder int }

func (m *model) tick(copies uint8) {
	m.younger, m.elder = min(m.younger+1, 255), min(m.elder+1, 255)
	m.count = (m.count + 1) % 160
	if slices.Contains(starts[copies%8], m.count) {
		m.elder, m.younger = m.younger, 0
	}
	if m.younger >= 8 {
		m.elder = 255
	}
}

func (m model) dot(lead int) int {
	lead = min(max(lead, 0), 7)
	switch {
	case m.younger-lead >= 0:
		return m.younger - lead
	case m.elder-lead >= 0:
		return m.elder - lead
	}
	return -1
}

func (m model) words() [3]int { return [3]int{m.count, m.younger, m.elder} }

// has holds a thing against what it should have.
func has(t *testing.T, promise string, x *sprite.Thing, m model) {
	t.Helper()
	if x.Words() != m.words() || x.Count() != m.count {
		t.Fatalf("%s: it has %v, count %d, not %v", promise, x.Words(), x.Count(), m.words())
	}
	for lead := -1; lead <= 8; lead++ {
		if x.Dot(lead) != m.dot(lead) {
			t.Fatalf("%s: at %v: Dot(%d) is %d, not %d", promise, m.words(), lead, x.Dot(lead), m.dot(lead))
		}
	}
}

// set is a thing that has these words.
func set(t *testing.T, m model) *sprite.Thing {
	t.Helper()
	x := sprite.New()
	if e := x.Set(m.words()); e != api.OK {
		t.Fatalf("P16.2: Set(%v): %d", m.words(), e)
	}
	return x
}

// eachAges goes over all two ages that can be.
func eachAges(yield func(younger, elder int) bool) {
	for younger := range 256 {
		if younger >= 8 {
			if !yield(younger, 255) {
				return
			}
			continue
		}
		for elder := younger + 1; elder < 256; elder++ {
			if !yield(younger, elder) {
				return
			}
		}
	}
}

// TestLongRuns: puts near starts bring starts that come close, one behind the other.
func TestLongRuns(t *testing.T) {
	for seed := range int64(12) {
		r := rand.New(rand.NewSource(seed))
		x, m := sprite.New(), model{0, 255, 255}
		copies := uint8(r.Intn(256))
		for range 20000 {
			switch k := r.Intn(200); {
			case k == 0:
				copies = uint8(r.Intn(256))
			case k < 1+int(seed):
				m.count = []int{159, 15, 31, 63, 0, 16, 32, 64, r.Intn(160), r.Intn(160)}[r.Intn(10)]
				x.Put(m.count)
			case k == 100:
				x = x.Copy()
			case k == 101:
				x = set(t, m)
			}
			x.Tick(copies)
			m.tick(copies)
			has(t, "P16.1", x, m)
		}
	}
}

// TestTickOfEachState: what a tick makes of all ages, with a start and without.
func TestTickOfEachState(t *testing.T) {
	for younger, elder := range eachAges {
		for _, count := range []int{159, 15, 8} {
			m := model{count, younger, elder}
			x := set(t, m)
			has(t, "P16.2", x, m)
			for range 9 {
				x.Tick(1)
				m.tick(1)
				has(t, "P16.1", x, m)
			}
		}
	}
}
