package count_test

import (
	"math"
	"testing"

	"woodgrain/api"
	"woodgrain/count"
	"woodgrain/poly"
)

// outside are numbers that are no count of anything with so many of them.
func outside(states int) []int {
	return []int{-1, -4, -states, states, states + 1, math.MinInt, math.MaxInt}
}

func TestByRefuses(t *testing.T) {
	for _, n := range []int{0, -1, -65536, 65537, math.MinInt, math.MaxInt} {
		if count.By(n) != nil {
			t.Errorf("P2.1: By(%d) is a divider", n)
		}
	}
}

func TestDividerTicks(t *testing.T) {
	for _, by := range []int{1, 2, 3, 4, 5, 57, 255, 256, 257, 65535, 65536} {
		d := count.By(by)
		for i := range 2*by + 1 {
			if d.Count() != i%by {
				t.Fatalf("P2.1: by %d: %d behind %d ticks", by, d.Count(), i)
			}
			if again := d.Tick(); again != ((i+1)%by == 0) {
				t.Fatalf("P2.1: by %d: tick %d tells %v", by, i+1, again)
			}
		}
	}
}

func TestDividerPhase(t *testing.T) {
	for by, phases := range map[int][]int{1: {1}, 2: {1, 2}, 3: {1, 2, 0}, 4: {1, 0, 2, 0}, 5: {1, 0, 2, 0, 0}} {
		d := count.By(by)
		for i, want := range phases {
			if d.Phase() != want {
				t.Errorf("P2.1: by %d at %d: phase %d", by, i, d.Phase())
			}
			d.Tick()
		}
	}
	d := count.By(65536)
	for n, want := range map[int]int{0: 1, 1: 0, 32767: 0, 32768: 2, 32769: 0, 65535: 0} {
		if d.Set(n); d.Phase() != want {
			t.Errorf("P2.1: by 65536 at %d: phase %d", n, d.Phase())
		}
	}
}

func TestDividerSet(t *testing.T) {
	for _, by := range []int{1, 2, 3, 65536} {
		d := count.By(by)
		for _, n := range []int{by - 1, by / 2, 0} {
			if e := d.Set(n); e != api.OK || d.Count() != n {
				t.Errorf("P2.1: by %d: Set(%d): %d, at %d", by, n, e, d.Count())
			}
		}
		d.Set(by - 1)
		for _, n := range outside(by) {
			if e := d.Set(n); e != api.ErrRange || d.Count() != by-1 {
				t.Errorf("P2.1: by %d: Set(%d): %d, at %d", by, n, e, d.Count())
			}
		}
		if !d.Tick() || d.Count() != 0 {
			t.Errorf("P2.1: by %d: its last tick", by)
		}
	}
}

func TestOfRefuses(t *testing.T) {
	for _, n := range []int{0, -1, -63, 64, 65, 256 + 3, math.MinInt, math.MaxInt} {
		if count.Of(n) != nil {
			t.Errorf("P2.2: Of(%d) is a counter", n)
		}
	}
}

func TestCounterTicks(t *testing.T) {
	for states := 1; states <= 63; states++ {
		c, p := count.Of(states), poly.New[uint8](6, 1)
		for i := range 2*states + 1 {
			if i%states == 0 {
				p.Set(0)
			}
			if c.Count() != i%states || c.Mark() != p.State() {
				t.Fatalf("P2.2: of %d: %d, mark %d, behind %d ticks", states, c.Count(), c.Mark(), i)
			}
			if again := c.Tick(); again != ((i+1)%states == 0) {
				t.Fatalf("P2.2: of %d: tick %d tells %v", states, i+1, again)
			}
			p.Step()
		}
	}
}

func TestCounterMarksExample(t *testing.T) {
	c := count.Of(3)
	for i, want := range []uint8{0, 32, 48, 0} {
		if c.Mark() != want {
			t.Errorf("P2.2: mark %d is %d", i, c.Mark())
		}
		c.Tick()
	}
}

func TestCounterSetAndAt(t *testing.T) {
	for states := 1; states <= 63; states++ {
		c, p := count.Of(states), poly.New[uint8](6, 1)
		for i := range states {
			if e := c.Set(i); e != api.OK || c.Count() != i || c.Mark() != p.State() {
				t.Fatalf("P2.2: of %d: Set(%d): %d, at %d, mark %d", states, i, e, c.Count(), c.Mark())
			}
			for n := range states {
				if c.At(n) != (n == i) {
					t.Fatalf("P2.2: of %d: at %d, At(%d)", states, i, n)
				}
			}
			for _, n := range outside(states) {
				if e := c.Set(n); e != api.ErrRange || c.Count() != i || c.Mark() != p.State() || c.At(n) {
					t.Fatalf("P2.2: of %d: Set(%d): %d, at %d", states, n, e, c.Count())
				}
			}
			p.Step()
		}
		if !c.Tick() || c.Count() != 0 || c.Mark() != 0 {
			t.Fatalf("P2.2: of %d: its last tick", states)
		}
	}
}

// Its poly's methods are the counter's, too.
func TestCounterIsItsPoly(t *testing.T) {
	c := count.Of(40)
	c.Set(39)
	if n, ok := c.Place(c.Mark()); c.State() != c.Mark() || n != 39 || !ok || c.Period() != 63 {
		t.Error("P2.2: a counter is not kept as its poly's state")
	}
}

func TestPlaceTicks(t *testing.T) {
	p := count.Begin()
	for i := range 2*160 + 1 {
		if p.Count() != i%160 {
			t.Fatalf("P2.3: %d behind %d ticks", p.Count(), i)
		}
		if again := p.Tick(); again != ((i+1)%160 == 0) {
			t.Fatalf("P2.3: tick %d tells %v", i+1, again)
		}
	}
}

func TestPlaceAtItsEnd(t *testing.T) {
	p := count.Begin()
	if p.Set(159) != api.OK || p.Count() != 159 || !p.Tick() || p.Count() != 0 || !p.At(0) {
		t.Error("P2.3: a place at 159 does not come round")
	}
}

func TestPlaceSetAndAt(t *testing.T) {
	p := count.Begin()
	for i := range 160 {
		if e := p.Set(i); e != api.OK || p.Count() != i {
			t.Fatalf("P2.3: Set(%d): %d, at %d", i, e, p.Count())
		}
		for n := range 160 {
			if p.At(n) != (n == i) {
				t.Fatalf("P2.3: at %d, At(%d)", i, n)
			}
		}
		for _, n := range append(outside(160), -i, i-160, i+160) {
			if n == 0 {
				continue
			}
			if e := p.Set(n); e != api.ErrRange || p.Count() != i || p.At(n) {
				t.Fatalf("P2.3: at %d: Set(%d): %d, at %d", i, n, e, p.Count())
			}
		}
	}
}

func TestPlaceCopy(t *testing.T) {
	p := count.Begin()
	for i := range 160 {
		p.Set(i)
		q := p.Copy()
		if q == p || q.Count() != i {
			t.Fatalf("P2.3: copy at %d", q.Count())
		}
		for range 5 {
			q.Tick()
		}
		if p.Count() != i || q.Count() != (i+5)%160 {
			t.Fatalf("P2.3: from %d: %d, its copy %d", i, p.Count(), q.Count())
		}
		p.Set(7)
		if q.Count() != (i+5)%160 {
			t.Fatalf("P2.3: the copy goes with its place: %d", q.Count())
		}
	}
}

// Objects of one kind share nothing.
func TestApart(t *testing.T) {
	d, c, p := count.By(4), count.Of(57), count.Begin()
	count.By(4).Set(3)
	count.Of(57).Set(56)
	count.Begin().Set(159)
	if d.Count() != 0 || c.Count() != 0 || p.Count() != 0 {
		t.Error("R5: one goes on with another")
	}
}

func TestNil(t *testing.T) {
	var d *count.Divider
	var c *count.Counter
	var p *count.Place
	for _, n := range []int{0, 1, -1, 1000} {
		if d.Set(n) != api.ErrArg || c.Set(n) != api.ErrArg || p.Set(n) != api.ErrArg || c.At(n) || p.At(n) {
			t.Errorf("P2.4: nil at %d", n)
		}
	}
	if d.Tick() || c.Tick() || p.Tick() || d.Count() != 0 || c.Count() != 0 || p.Count() != 0 {
		t.Error("P2.4: nil counts")
	}
	if d.Phase() != 0 || c.Mark() != 0 || p.Copy() != nil {
		t.Error("P2.4: nil has a phase, a mark or a copy")
	}
}
