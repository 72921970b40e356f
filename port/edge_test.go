package port_test

import (
	"math"
	"testing"

	"woodgrain/api"
	"woodgrain/port"
)

// edgeOf is an edge of these words, which calls other than Set lead to.
func edgeOf(w [3]int) *port.Edge {
	e := port.NewEdge(w[0] == 0)
	e.Choose(w[0] == 1)
	if w[2] == 1 {
		e.See(w[0] == 1)
	} else {
		e = port.NewEdge(w[0] == 1)
	}
	e.Choose(w[1] == 1)
	return e
}

func allEdges() [][3]int {
	var all [][3]int
	for bits := range 8 {
		all = append(all, [3]int{bits & 1, bits >> 1 & 1, bits >> 2})
	}
	return all
}

// edgeHas holds an edge against what it should have.
func edgeHas(t *testing.T, promise string, e *port.Edge, w [3]int) {
	t.Helper()
	if e.Words() != w || e.Caught() != (w[2] == 1) {
		t.Fatalf("%s: it has %v, caught %v, not %v", promise, e.Words(), e.Caught(), w)
	}
}

func TestNewEdge(t *testing.T) {
	edgeHas(t, "P7.2", port.NewEdge(true), [3]int{1, 0, 0})
	edgeHas(t, "P7.2", port.NewEdge(false), [3]int{0, 0, 0})
}

func TestEdgeExample(t *testing.T) {
	e := port.NewEdge(true)
	e.See(false)
	if !e.Caught() {
		t.Error("P7.2: a falling level is not caught")
	}
	if !e.Take() || e.Take() {
		t.Error("P7.2: it is not taken once")
	}
}

func TestSeeFromEachState(t *testing.T) {
	for _, x := range []struct {
		before        [3]int
		low, highSeen [3]int
	}{
		{[3]int{0, 0, 0}, [3]int{0, 0, 0}, [3]int{1, 0, 0}},
		{[3]int{0, 0, 1}, [3]int{0, 0, 1}, [3]int{1, 0, 1}},
		{[3]int{0, 1, 0}, [3]int{0, 1, 0}, [3]int{1, 1, 1}},
		{[3]int{0, 1, 1}, [3]int{0, 1, 1}, [3]int{1, 1, 1}},
		{[3]int{1, 0, 0}, [3]int{0, 0, 1}, [3]int{1, 0, 0}},
		{[3]int{1, 0, 1}, [3]int{0, 0, 1}, [3]int{1, 0, 1}},
		{[3]int{1, 1, 0}, [3]int{0, 1, 0}, [3]int{1, 1, 0}},
		{[3]int{1, 1, 1}, [3]int{0, 1, 1}, [3]int{1, 1, 1}},
	} {
		e := edgeOf(x.before)
		edgeHas(t, "P7.2", e, x.before)
		e.See(false)
		edgeHas(t, "P7.2", e, x.low)
		e = edgeOf(x.before)
		e.See(true)
		edgeHas(t, "P7.2", e, x.highSeen)
	}
}

func TestSameLevelAgain(t *testing.T) {
	for _, high := range []bool{false, true} {
		for _, rising := range []bool{false, true} {
			e := port.NewEdge(high)
			e.Choose(rising)
			for range 3 {
				e.See(high)
				if e.Caught() || e.Take() {
					t.Errorf("P7.2: %v seen again, rising %v: caught", high, rising)
				}
			}
			e.See(!high)
			if e.Take() != (rising == !high) {
				t.Errorf("P7.2: %v behind %v, rising %v: wrong", !high, high, rising)
			}
			e.See(!high) // taken, and not caught anew
			if e.Caught() {
				t.Errorf("P7.2: %v seen again, rising %v: caught once more", !high, rising)
			}
		}
	}
}

func TestChoose(t *testing.T) {
	for _, w := range allEdges() {
		for rising := range 2 {
			e := edgeOf(w)
			e.Choose(rising == 1)
			edgeHas(t, "P7.2", e, [3]int{w[0], rising, w[2]})
		}
	}
}

// TestChooseIsNoLevel: an edge that is set anew catches nothing by that, and
// what it has caught stays.
func TestChooseIsNoLevel(t *testing.T) {
	e := port.NewEdge(true)
	e.See(false)
	e.Choose(true)
	edgeHas(t, "P7.2", e, [3]int{0, 1, 1})
	e.Choose(false)
	edgeHas(t, "P7.2", e, [3]int{0, 0, 1})
	if !e.Take() {
		t.Error("P7.2: set anew, it is not caught any more")
	}
	e.Choose(true)
	if e.Caught() {
		t.Error("P7.2: set anew, it is caught")
	}
	e.See(true)
	if !e.Take() {
		t.Error("P7.2: set to rising, a rising level is not caught")
	}
	e.See(false)
	if e.Caught() {
		t.Error("P7.2: set to rising, a falling level is caught")
	}
}

func TestTake(t *testing.T) {
	for _, w := range allEdges() {
		e := edgeOf(w)
		for range 2 {
			if e.Caught() != (w[2] == 1) {
				t.Errorf("P7.2: Caught of %v", w)
			}
		}
		if e.Take() != (w[2] == 1) {
			t.Errorf("P7.2: Take of %v", w)
		}
		edgeHas(t, "P7.2", e, [3]int{w[0], w[1], 0})
		if e.Take() {
			t.Errorf("P7.2: a second Take of %v", w)
		}
		edgeHas(t, "P7.2", e, [3]int{w[0], w[1], 0})
	}
}

// TestStaysCaught: levels that would not catch it leave it caught.
func TestStaysCaught(t *testing.T) {
	e := port.NewEdge(true)
	e.See(false)
	for i := range 9 {
		e.See(i%3 == 0)
		if !e.Caught() {
			t.Fatalf("P7.2: behind %d more levels it is not caught", i+1)
		}
	}
}

func TestSetEdge(t *testing.T) {
	for _, from := range allEdges() {
		for _, w := range allEdges() {
			e := edgeOf(from)
			if n := e.Set(w); n != api.OK {
				t.Fatalf("P7.3: Set(%v): %d", w, n)
			}
			edgeHas(t, "P7.3", e, w)
			same := edgeOf(w)
			for _, high := range []bool{true, false, false, true} {
				e.See(high)
				same.See(high)
				edgeHas(t, "P7.3", e, same.Words())
			}
		}
	}
}

func TestSetEdgeRefuses(t *testing.T) {
	for _, from := range allEdges() {
		e := edgeOf(from)
		for place := range 3 {
			for _, n := range []int{-1, 2, 3, 255, 256, 257, 1 << 32, math.MinInt, math.MinInt + 1, math.MaxInt} {
				w := [3]int{1 - from[0], 1 - from[1], 1 - from[2]}
				w[place] = n
				if x := e.Set(w); x != api.ErrRange {
					t.Errorf("P7.3: Set(%v): %d", w, x)
				}
				edgeHas(t, "R2", e, from)
			}
		}
	}
}

func TestTwoEdges(t *testing.T) {
	e, f := port.NewEdge(true), port.NewEdge(true)
	if x := f.Set(e.Words()); x != api.OK {
		t.Fatalf("P7.3: Set of another's words: %d", x)
	}
	f.See(false)
	f.Choose(true)
	edgeHas(t, "R4", e, [3]int{1, 0, 0})
	edgeHas(t, "R4", f, [3]int{0, 1, 1})
}

func TestNilEdge(t *testing.T) {
	var e *port.Edge
	e.Choose(true)
	e.See(true)
	e.See(false)
	if e.Caught() || e.Take() || e.Words() != [3]int{} {
		t.Error("P7.3: a nil edge has something")
	}
	for _, w := range [][3]int{{}, {1, 0, 1}, {2, 0, 0}} {
		if x := e.Set(w); x != api.ErrArg {
			t.Errorf("P7.3: Set(%v) of nil: %d", w, x)
		}
	}
}
