package cell_test

import (
	"math"
	"slices"
	"testing"

	"woodgrain/api"
	"woodgrain/cell"
)

func TestNewRingRefuses(t *testing.T) {
	for _, room := range []int{0, -1, -65536, api.MaxRoom + 1, math.MinInt, math.MaxInt} {
		if cell.NewRing[int](room) != nil {
			t.Errorf("P3.1: there is a ring with room %d", room)
		}
	}
}

// isRing holds a ring against the list that it should be.
func isRing(t *testing.T, r *cell.Ring[int], want []int) {
	t.Helper()
	if l := r.List(); !slices.Equal(l, want) || r.Len() != len(want) {
		t.Fatalf("P3.1: it has %v, length %d, not %v", l, r.Len(), want)
	}
	for i, x := range want {
		if got, ok := r.At(i); got != x || !ok {
			t.Fatalf("P3.1: At(%d) of %v: %d, %v", i, want, got, ok)
		}
	}
	for _, i := range []int{-1, -len(want) - 1, len(want), len(want) + 1, math.MinInt, math.MaxInt} {
		if got, ok := r.At(i); got != 0 || ok {
			t.Fatalf("P3.1: At(%d) of %v: %d, %v", i, want, got, ok)
		}
	}
}

func TestRingForgetsTheEldest(t *testing.T) {
	r := cell.NewRing[int](2)
	isRing(t, r, nil)
	for i, want := range []int{0, 0, 1} {
		if x, out := r.Put(i + 1); x != want || out != (want != 0) {
			t.Errorf("P3.1: Put(%d): %d, %v", i+1, x, out)
		}
	}
	isRing(t, r, []int{2, 3})
}

// TestRingAsList does to a ring and to a list, by turns of all kinds, the same.
func TestRingAsList(t *testing.T) {
	for room := 1; room <= 5; room++ {
		for plan := range 1 << 11 {
			r := cell.NewRing[int](room)
			var want []int
			for step := range 11 {
				if plan>>step&1 == 0 {
					want = putBoth(t, r, want, room, step+1)
				} else {
					want = popBoth(t, r, want)
				}
			}
			isRing(t, r, want)
		}
	}
}

func putBoth(t *testing.T, r *cell.Ring[int], want []int, room, x int) []int {
	t.Helper()
	eldest, full := 0, len(want) == room
	if full {
		eldest, want = want[0], want[1:]
	}
	if got, out := r.Put(x); got != eldest || out != full {
		t.Fatalf("P3.1: Put with room %d: %d, %v, not %d, %v", room, got, out, eldest, full)
	}
	return append(want, x)
}

func popBoth(t *testing.T, r *cell.Ring[int], want []int) []int {
	t.Helper()
	youngest, left := 0, want
	if len(want) > 0 {
		youngest, left = want[len(want)-1], want[:len(want)-1]
	}
	if got, ok := r.Pop(); got != youngest || ok != (len(want) > 0) {
		t.Fatalf("P3.1: Pop of %v: %d, %v", want, got, ok)
	}
	return left
}

func TestRingOfOne(t *testing.T) {
	r := cell.NewRing[int](1)
	for x := 1; x <= 3; x++ {
		if got, out := r.Put(x); got != x-1 || out != (x > 1) {
			t.Errorf("P3.1: Put(%d) with room 1: %d, %v", x, got, out)
		}
		isRing(t, r, []int{x})
	}
	if x, ok := r.Pop(); x != 3 || !ok {
		t.Errorf("P3.1: Pop with room 1: %d, %v", x, ok)
	}
	isRing(t, r, nil)
}

func TestRingOfMaxRoom(t *testing.T) {
	r := cell.NewRing[int](api.MaxRoom)
	for x := range api.MaxRoom {
		if got, out := r.Put(x + 1); got != 0 || out {
			t.Fatalf("P3.1: Put %d of MaxRoom: %d, %v", x+1, got, out)
		}
	}
	for x := range api.MaxRoom / 2 {
		if got, out := r.Put(-x); got != x+1 || !out {
			t.Fatalf("P3.1: Put behind MaxRoom: %d, %v, not %d", got, out, x+1)
		}
	}
	if first, ok := r.At(0); first != api.MaxRoom/2+1 || !ok || r.Len() != api.MaxRoom {
		t.Errorf("P3.1: the eldest of MaxRoom is %d, %v", first, ok)
	}
	if youngest, ok := r.At(api.MaxRoom - 1); youngest != 1-api.MaxRoom/2 || !ok {
		t.Errorf("P3.1: the youngest of MaxRoom is %d, %v", youngest, ok)
	}
	if _, ok := r.At(api.MaxRoom); ok {
		t.Error("P3.1: there is a thing at MaxRoom")
	}
	for i := range api.MaxRoom {
		if _, ok := r.Pop(); !ok || r.Len() != api.MaxRoom-1-i {
			t.Fatalf("P3.1: Pop %d of MaxRoom: %v, length %d", i, ok, r.Len())
		}
	}
	if x, ok := r.Pop(); x != 0 || ok {
		t.Errorf("P3.1: Pop of an emptied ring: %d, %v", x, ok)
	}
}

func TestRingZeroThings(t *testing.T) {
	r := cell.NewRing[string](2)
	if x, out := r.Put("a"); x != "" || out {
		t.Errorf("P3.1: Put: %q, %v", x, out)
	}
	if x, ok := r.At(1); x != "" || ok {
		t.Errorf("P3.1: At: %q, %v", x, ok)
	}
	r.Pop()
	if x, ok := r.At(0); x != "" || ok {
		t.Errorf("P3.1: At of an emptied ring: %q, %v", x, ok)
	}
	r.Put("")
	r.Put("")
	if x, out := r.Put("b"); x != "" || !out {
		t.Errorf("P3.1: Put of a full ring of zero things: %q, %v", x, out)
	}
}

func TestRingListIsNew(t *testing.T) {
	r := cell.NewRing[int](3)
	r.Put(1)
	r.Put(2)
	l := r.List()
	l[0] = 7
	_ = append(l, 8)
	r.Put(3)
	isRing(t, r, []int{1, 2, 3})
	if !slices.Equal(l, []int{7, 2}) {
		t.Errorf("R4: a list that was told became %v", l)
	}
}

func TestNewGridRefuses(t *testing.T) {
	for _, n := range []int{0, -1, -1024, 1025, math.MinInt, math.MaxInt} {
		for _, other := range []int{1, 7, 1024, n} {
			if cell.NewGrid(n, other, 'x') != nil || cell.NewGrid(other, n, 'x') != nil {
				t.Errorf("P3.2: there is a grid with sides %d and %d", n, other)
			}
		}
	}
}

func TestGridSizes(t *testing.T) {
	for _, s := range [][2]int{{1, 1}, {1, 1024}, {1024, 1}, {1024, 1024}, {3, 2}, {160, 320}} {
		g := cell.NewGrid(s[0], s[1], 9)
		if w, h := g.Size(); w != s[0] || h != s[1] {
			t.Errorf("P3.2: Size of %v: %d, %d", s, w, h)
		}
		for y := range s[1] {
			row := g.Row(y)
			if len(row) != s[0] || slices.ContainsFunc(row, func(v int) bool { return v != 9 }) {
				t.Fatalf("P3.2: row %d of %v is not all fill", y, s)
			}
		}
		last := s[1] - 1
		if g.Set(s[0]-1, last, 5) != api.OK {
			t.Errorf("P3.2: Set of the last place of %v", s)
		}
		if v, e := g.Get(s[0]-1, last); v != 5 || e != api.OK {
			t.Errorf("P3.2: Get of the last place of %v: %d, %d", s, v, e)
		}
	}
}

func TestGridPlaces(t *testing.T) {
	const w, h = 4, 3
	g := cell.NewGrid(w, h, -1)
	for y := range h {
		for x := range w {
			if v, e := g.Get(x, y); v != -1 || e != api.OK {
				t.Errorf("P3.2: Get(%d, %d) ahead of Set: %d, %d", x, y, v, e)
			}
			if e := g.Set(x, y, 10*y+x); e != api.OK {
				t.Errorf("P3.2: Set(%d, %d): %d", x, y, e)
			}
		}
	}
	for y := range h {
		if row := g.Row(y); !slices.Equal(row, []int{10 * y, 10*y + 1, 10*y + 2, 10*y + 3}) {
			t.Errorf("P3.2: row %d is %v", y, row)
		}
		for x := range w {
			if v, e := g.Get(x, y); v != 10*y+x || e != api.OK {
				t.Errorf("P3.2: Get(%d, %d): %d, %d", x, y, v, e)
			}
		}
	}
}

func TestGridBeyond(t *testing.T) {
	g := cell.NewGrid(4, 3, 8)
	for _, p := range [][2]int{{-1, 0}, {0, -1}, {4, 0}, {0, 3}, {4, 3}, {-1, 1}, {5, 1}, {-4, 2}, {12, 0}, {math.MinInt, 0}, {0, math.MinInt}, {math.MaxInt, 0}, {0, math.MaxInt}} {
		if e := g.Set(p[0], p[1], 1); e != api.ErrRange {
			t.Errorf("P3.2: Set at %v: %d", p, e)
		}
		if v, e := g.Get(p[0], p[1]); v != 0 || e != api.ErrRange {
			t.Errorf("P3.2: Get at %v: %d, %d", p, v, e)
		}
	}
	for _, y := range []int{-1, 3, 4, math.MinInt, math.MaxInt} {
		if len(g.Row(y)) != 0 {
			t.Errorf("P3.2: there is a row %d", y)
		}
	}
	for y := range 3 {
		if !slices.Equal(g.Row(y), []int{8, 8, 8, 8}) {
			t.Errorf("R2: a refused Set changed row %d", y)
		}
	}
}

func TestGridRowIsNew(t *testing.T) {
	g := cell.NewGrid(2, 2, 8)
	row := g.Row(0)
	row[1] = 1
	_ = append(row, 2)
	if !slices.Equal(g.Row(0), []int{8, 8}) || !slices.Equal(g.Row(1), []int{8, 8}) {
		t.Error("R4: a row that was told is the grid's own")
	}
}

func TestPack(t *testing.T) {
	for row, want := range map[string][]cell.Run[byte]{
		"":     nil,
		"a":    {{Item: 'a', Count: 1}},
		"aaaa": {{Item: 'a', Count: 4}},
		"aab":  {{Item: 'a', Count: 2}, {Item: 'b', Count: 1}},
		"abba": {{Item: 'a', Count: 1}, {Item: 'b', Count: 2}, {Item: 'a', Count: 1}},
	} {
		if runs := cell.Pack([]byte(row)); !slices.Equal(runs, want) {
			t.Errorf("P3.3: Pack(%q): %v", row, runs)
		}
	}
	if runs := cell.Pack(make([]int, 1<<20)); len(runs) != 1 || runs[0] != (cell.Run[int]{Count: 1 << 20}) {
		t.Errorf("P3.3: Pack of one great run: %v", runs)
	}
	if len(cell.Pack[int](nil)) != 0 {
		t.Error("R3: Pack of nil")
	}
}

func TestPackOfUnlikeThings(t *testing.T) {
	nan := math.NaN()
	if runs := cell.Pack([]float64{1, nan, nan, 2, 2}); len(runs) != 4 || runs[1].Count != 1 || runs[2].Count != 1 || runs[3].Count != 2 {
		t.Errorf("P3.3: Pack of things that are unlike themselves: %v", runs)
	}
	list := []int{1}
	runs := cell.Pack([]any{1, 1, list, list, 1})
	if len(runs) != 4 || runs[0].Count != 2 || runs[1].Count != 1 || runs[2].Count != 1 || runs[3].Count != 1 {
		t.Errorf("R1: Pack of things that can't be compared: %v", runs)
	}
}

func TestUnpack(t *testing.T) {
	type runs = []cell.Run[byte]
	for _, x := range []struct {
		l    runs
		most int
		row  string
		e    api.Errno
	}{
		{runs{{'a', 2}, {'b', 1}}, 3, "aab", api.OK},
		{runs{{'a', 2}, {'b', 1}}, math.MaxInt, "aab", api.OK},
		{runs{{'a', 2}, {'b', 1}}, 2, "", api.ErrLong},
		{runs{{'a', 2}, {'b', 1}}, 1, "", api.ErrLong},
		{runs{{'x', 3}}, 2, "", api.ErrLong},
		{runs{{'x', 3}}, 3, "xxx", api.OK},
		{runs{{'a', 1}, {'a', 2}, {'b', 1}, {'b', 1}}, 5, "aaabb", api.OK},
		{nil, 0, "", api.OK},
		{runs{}, 0, "", api.OK},
		{nil, -1, "", api.OK},
		{nil, math.MinInt, "", api.OK},
		{runs{{'a', 1}}, 0, "", api.ErrLong},
		{runs{{'a', 1}}, -1, "", api.ErrLong},
		{runs{{'a', 1}}, math.MinInt, "", api.ErrLong},
		{runs{{'a', 0}}, 9, "", api.ErrRange},
		{runs{{'a', 0}}, -1, "", api.ErrRange},
		{runs{{'a', -1}}, 9, "", api.ErrRange},
		{runs{{'a', math.MinInt}}, 9, "", api.ErrRange},
		{runs{{'a', 2}, {'b', 0}}, 2, "", api.ErrRange},
		{runs{{'a', 2}, {'b', 0}}, 1, "", api.ErrLong}, // run by run: the first one is too long
		{runs{{'a', 0}, {'b', 9}}, 1, "", api.ErrRange},
		{runs{{'a', math.MaxInt}}, 9, "", api.ErrLong},
		{runs{{'a', 1}, {'b', math.MaxInt}}, 9, "", api.ErrLong},
		{runs{{'a', 1}, {'b', math.MaxInt}}, math.MaxInt, "", api.ErrLong},
		{runs{{'a', math.MaxInt}, {'b', 0}}, math.MaxInt, "", api.ErrRange},
	} {
		row, e := cell.Unpack(x.l, x.most)
		if string(row) != x.row || e != x.e {
			t.Errorf("P3.3: Unpack(%v, %d): %q, %d", x.l, x.most, row, e)
		}
	}
}

func TestOfNil(t *testing.T) {
	var r *cell.Ring[string]
	if x, out := r.Put("a"); x != "" || out {
		t.Error("P3.4: Put")
	}
	if x, ok := r.Pop(); x != "" || ok {
		t.Error("P3.4: Pop")
	}
	for _, i := range []int{-1, 0, 1} {
		if x, ok := r.At(i); x != "" || ok {
			t.Errorf("P3.4: At(%d)", i)
		}
	}
	if r.Len() != 0 || len(r.List()) != 0 {
		t.Error("P3.4: Len, List")
	}
	var g *cell.Grid[string]
	for _, n := range []int{-1, 0, 1} {
		if g.Set(n, n, "a") != api.ErrArg || len(g.Row(n)) != 0 {
			t.Errorf("P3.4: Set, Row at %d", n)
		}
		if x, e := g.Get(n, n); x != "" || e != api.ErrArg {
			t.Errorf("P3.4: Get at %d", n)
		}
	}
	if w, h := g.Size(); w != 0 || h != 0 {
		t.Error("P3.4: Size")
	}
}

// rows are all rows of 0 to 7 things of three kinds.
func rows() [][]int {
	all := [][]int{nil}
	for from := 0; len(all) < 3280; from++ {
		for x := range 3 {
			all = append(all, append(slices.Clone(all[from]), x))
		}
	}
	return all
}

func TestThereAndBack(t *testing.T) {
	for _, row := range rows() {
		before := slices.Clone(row)
		runs := cell.Pack(row)
		back, e := cell.Unpack(runs, len(row))
		if e != api.OK || !slices.Equal(back, row) || !slices.Equal(before, row) {
			t.Fatalf("P3.5: %v came back as %v, %d", row, back, e)
		}
		changes := 0
		for i := range row {
			if i == 0 || row[i] != row[i-1] {
				changes++
			}
		}
		if len(runs) != changes {
			t.Fatalf("P3.5: %v has %d runs, not %d", row, len(runs), changes)
		}
	}
}

func TestPackOfAnyRuns(t *testing.T) {
	for _, counts := range [][]int{{1, 1, 1}, {2, 3, 1}, {1, 4, 2}} {
		for _, items := range rows() {
			if len(items) != 3 {
				continue
			}
			var l []cell.Run[int]
			for i, x := range items {
				l = append(l, cell.Run[int]{Item: x, Count: counts[i]})
			}
			row, e := cell.Unpack(l, 9)
			runs := cell.Pack(row)
			for i := 1; i < len(runs); i++ {
				if runs[i].Item == runs[i-1].Item {
					t.Errorf("P3.5: %v has neighbours alike", runs)
				}
			}
			if e != api.OK || len(runs) != len(slices.Compact(slices.Clone(items))) {
				t.Errorf("P3.5: %v became %v, %d", l, runs, e)
			}
		}
	}
}
