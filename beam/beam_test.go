package beam_test

import (
	"math"
	"math/rand"
	"testing"

	"woodgrain/api"
	"woodgrain/beam"
)

// model is a beam as the chapter's words say it.
type model struct {
	clock int
	late  bool
}

func (m model) words() [2]int {
	if m.late {
		return [2]int{m.clock, 1}
	}
	return [2]int{m.clock, 0}
}

func (m model) dark() bool  { return m.clock < 68 || m.late && m.clock < 76 }
func (m model) pulse() bool { return 20 <= m.clock && m.clock <= 35 }

// has holds a beam against what it should have.
func has(t *testing.T, promise string, b *beam.Beam, m model) {
	t.Helper()
	if b.Words() != m.words() || b.Clock() != m.clock {
		t.Fatalf("%s: it has %v, clock %d, not %v", promise, b.Words(), b.Clock(), m.words())
	}
	if b.Dark() != m.dark() || b.Pulse() != m.pulse() {
		t.Fatalf("%s: at %v: dark %v, pulse %v", promise, m.words(), b.Dark(), b.Pulse())
	}
}

// at is a beam that is so.
func at(t *testing.T, m model) *beam.Beam {
	t.Helper()
	b := beam.New(m.clock)
	if b == nil {
		t.Fatalf("P15.1: New(%d) is nil", m.clock)
	}
	if m.late {
		b.Comb()
	}
	return b
}

// each goes over all that a beam can be.
func each(yield func(model) bool) {
	for clock := range 228 {
		if !yield(model{clock, false}) || !yield(model{clock, true}) {
			return
		}
	}
}

// noClocks are numbers that are no clock of a line.
var noClocks = []int{-1, -4, -228, 228, 229, 232, 256, 456, math.MinInt, math.MaxInt}

func TestNew(t *testing.T) {
	for clock := range 228 {
		has(t, "P15.1", beam.New(clock), model{clock: clock})
	}
	for _, clock := range noClocks {
		if beam.New(clock) != nil {
			t.Errorf("P15.1: New(%d) is a beam", clock)
		}
	}
}

func TestApart(t *testing.T) {
	b, c := beam.New(9), beam.New(9)
	c.Comb()
	c.Next()
	has(t, "R5", b, model{clock: 9})
	has(t, "R5", c, model{10, true})
}

func TestDarkAtItsEnds(t *testing.T) {
	for clock, want := range map[int][2]bool{
		0: {true, true}, 19: {true, true}, 67: {true, true}, 68: {false, true}, 75: {false, true},
		76: {false, false}, 159: {false, false}, 227: {false, false},
	} {
		b := beam.New(clock)
		if b.Dark() != want[0] {
			t.Errorf("P15.1: at %d: dark %v", clock, b.Dark())
		}
		if b.Comb(); b.Dark() != want[1] {
			t.Errorf("P15.1: at %d, late: dark %v", clock, b.Dark())
		}
	}
}

func TestPulseAtItsEnds(t *testing.T) {
	for clock, want := range map[int]bool{0: false, 19: false, 20: true, 28: true, 35: true, 36: false, 68: false, 227: false} {
		b := beam.New(clock)
		if b.Pulse() != want {
			t.Errorf("P15.1: at %d: pulse %v", clock, b.Pulse())
		}
		if b.Comb(); b.Pulse() != want {
			t.Errorf("P15.1: at %d, late: pulse %v", clock, b.Pulse())
		}
	}
}

func TestAskingChangesNothing(t *testing.T) {
	for m := range each {
		b := at(t, m)
		has(t, "P15.1", b, m)
		has(t, "P15.1", b, m)
	}
}

func TestBegin(t *testing.T) {
	for m := range each {
		b := at(t, m)
		for range 2 {
			if b.Begin() != (m.clock == 0) {
				t.Fatalf("P15.1: Begin at %v", m.words())
			}
			m.late = m.late && m.clock != 0
			has(t, "P15.1", b, m)
		}
	}
}

func TestNext(t *testing.T) {
	for m := range each {
		b := at(t, m)
		b.Next()
		has(t, "P15.1", b, model{(m.clock + 1) % 228, m.late})
	}
}

func TestLines(t *testing.T) {
	for _, first := range []int{0, 1, 56, 67, 227} {
		b := beam.New(first)
		for i := range 3*228 + 1 {
			has(t, "P15.1", b, model{clock: (first + i) % 228})
			b.Next()
		}
	}
}

func TestExamples(t *testing.T) {
	b := beam.New(227)
	for range 57 {
		b.Next()
	}
	has(t, "P15.1", b, model{clock: 56})
	if !beam.New(67).Dark() || beam.New(68).Dark() {
		t.Error("P15.1: dark at 67, and not at 68")
	}
	b = beam.New(68)
	b.Comb()
	for b.Dark() {
		b.Next()
	}
	has(t, "P15.1", b, model{76, true})
}

func TestComb(t *testing.T) {
	for m := range each {
		b := at(t, m)
		b.Comb()
		has(t, "P15.1", b, model{m.clock, true})
	}
}

func TestReset(t *testing.T) {
	for m := range each {
		b := at(t, m)
		b.Reset()
		has(t, "P15.1", b, model{0, m.late})
		if !b.Begin() {
			t.Fatalf("P15.1: behind Reset at %v no line begins", m.words())
		}
		b.Next()
		has(t, "P15.1", b, model{clock: 1})
	}
}

// A beam is late till a line is begun, whether or not one went by.
func TestLateTillBegin(t *testing.T) {
	b := beam.New(10)
	b.Comb()
	for i := range 500 {
		has(t, "P15.1", b, model{(10 + i) % 228, true})
		if b.Clock() != 0 && b.Begin() {
			t.Fatalf("P15.1: Begin at %d", b.Clock())
		}
		b.Next()
	}
	b.Reset()
	b.Begin()
	for i := range 229 {
		has(t, "P15.1", b, model{clock: i % 228})
		b.Next()
	}
}

func TestSet(t *testing.T) {
	b := beam.New(5)
	for m := range each {
		if e := b.Set(m.words()); e != api.OK {
			t.Fatalf("P15.2: Set(%v): %d", m.words(), e)
		}
		has(t, "P15.2", b, m)
		b.Next()
		has(t, "P15.2", b, model{(m.clock + 1) % 228, m.late})
	}
}

func TestSetRefuses(t *testing.T) {
	for _, m := range []model{{0, false}, {17, true}, {227, false}} {
		b := at(t, m)
		var wrong [][2]int
		for _, n := range noClocks {
			wrong = append(wrong, [2]int{n, 0}, [2]int{n, 1})
		}
		for _, late := range []int{-1, 2, 255, 256, math.MinInt, math.MaxInt} {
			wrong = append(wrong, [2]int{0, late}, [2]int{100, late}, [2]int{228, late})
		}
		for _, w := range wrong {
			if e := b.Set(w); e != api.ErrRange {
				t.Errorf("P15.2: Set(%v): %d", w, e)
			}
			has(t, "R2", b, m)
		}
	}
}

func TestAgainstModel(t *testing.T) {
	r := rand.New(rand.NewSource(15))
	b, m := beam.New(0), model{}
	for range 100000 {
		switch k := r.Intn(400); {
		case k < 3:
			b.Comb()
			m.late = true
		case k == 3:
			b.Reset()
			m.clock = 0
		case k == 4:
			m = model{r.Intn(228), r.Intn(2) == 1}
			b.Set(m.words())
		case k < 100:
			if b.Begin() != (m.clock == 0) {
				t.Fatalf("P15.1: Begin at %v", m.words())
			}
			m.late = m.late && m.clock != 0
		default:
			b.Next()
			m.clock = (m.clock + 1) % 228
		}
		has(t, "P15.1", b, m)
	}
}

func TestNilBeam(t *testing.T) {
	var b *beam.Beam
	b.Next()
	b.Comb()
	b.Reset()
	if b.Clock() != 0 || b.Begin() || b.Dark() || b.Pulse() || b.Words() != [2]int{} {
		t.Error("P15.2: a nil beam has something")
	}
	for _, w := range [][2]int{{}, {20, 1}, {228, 0}, {0, 2}} {
		if e := b.Set(w); e != api.ErrArg {
			t.Errorf("P15.2: Set(%v) of nil: %d", w, e)
		}
	}
}
