package tia_test

import (
	"math"
	"math/rand"
	"slices"
	"testing"

	"woodgrain/api"
	"woodgrain/tia"
)

// ends is what each word has at most.
func ends() [many]int {
	var most [many]int
	copy(most[:], []int{227, 1, 16, 3, 31})
	for n := range 5 {
		copy(most[aThings+3*n:], []int{159, 255, 255})
	}
	for n := range 2 {
		copy(most[aVoices+8*n:], voiceEnds[:])
	}
	copy(most[aPorts:], []int{255, 255, 255, 255, 511, 1, 1, 1, 1, 1, 1})
	for at := aVSYNC; at < aMet; at++ {
		most[at] = 255
	}
	most[aENABL], most[aENABL+1], most[aMet], most[aWaits] = 1, 1, 32767, 1
	return most
}

// free is a word that may be anything within its ends, whatever the others are.
func free(at int) bool {
	inThings := at >= aThings && at < aVoices && (at-aThings)%3 > 0
	return !inThings && (at < aMotion || at >= aThings) && (at < aPorts+5 || at >= aVSYNC)
}

func TestSetTakesAllThatCanBe(t *testing.T) {
	base, most := busy(), ends()
	for at, last := range most {
		if !free(at) {
			continue
		}
		for _, n := range []int{0, 1, last / 2, last - 1, last} {
			m := base.copy()
			m.w[at] = n
			has(t, "P21.2", set(t, m), m)
		}
	}
	for count := range 17 {
		m := base.copy()
		copy(m.w[aMotion:], []int{count, 3, 31})
		if count == 16 {
			copy(m.w[aMotion:], []int{16, 0, 0})
		}
		has(t, "P21.2", set(t, m), m)
	}
	r := rand.New(rand.NewSource(4))
	for range 2000 {
		m := random(r)
		has(t, "P21.2", set(t, m), m)
	}
}

func TestSetRefuses(t *testing.T) {
	good := busy()
	x := set(t, good)
	refuses := func(w [many]int) {
		t.Helper()
		if e := x.Set(w[:]); e != api.ErrRange {
			t.Errorf("P21.2: Set(%v): %d", w, e)
		}
		has(t, "R2", x, good)
	}
	most := ends()
	for at, last := range most {
		for _, n := range []int{-1, -256, last + 1, last + 256, 1 << 16, 1 << 32, 1<<32 + 1, math.MinInt, math.MaxInt} {
			m := atPowerOn(5)
			m.w[at] = n
			refuses(m.w)
		}
	}
	for n := range 5 { // the words of the parts are held against one another, as the parts do
		m := atPowerOn(5)
		copy(m.w[aThings+3*n:], []int{0, 9, 200})
		refuses(m.w)
	}
	m := atPowerOn(5)
	m.w[aMotion+2] = 1
	refuses(m.w)
	m = atPowerOn(5)
	m.w[aPorts+4], m.w[aPorts+5] = 1, 1
	refuses(m.w)
}

func TestSetOfOtherLengths(t *testing.T) {
	good := busy()
	x := set(t, good)
	words := append(slices.Clone(good.w[:]), 1, 0, 0)
	for n := range 84 {
		if n == many {
			continue
		}
		for _, w := range [][]int{words[:n], slices.Repeat([]int{-1}, n)} {
			if e := x.Set(w); e != api.ErrArg {
				t.Errorf("P21.2: Set of %d words: %d", n, e)
			}
		}
	}
	if e := x.Set(nil); e != api.ErrArg {
		t.Errorf("P21.2: Set of no words: %d", e)
	}
	has(t, "R2", x, good)
}

// Neither the words that are handed in nor those that are handed out are kept.
func TestWordsAreNotKept(t *testing.T) {
	m := busy()
	w := append(slices.Clone(m.w[:]), 12345)
	x := tia.New(9)
	if e := x.Set(w[:many]); e != api.OK {
		t.Fatalf("P21.2: Set: %d", e)
	}
	if !slices.Equal(w[:many], m.w[:]) || w[many] != 12345 {
		t.Error("R4: Set changes what is handed in")
	}
	clear(w)
	has(t, "R4", x, m)
	out := x.Words()
	clear(out[:cap(out)])
	has(t, "R4", x, m)
}

// The words that a chip has make another one that goes on as it does.
func TestWordsFromOneSetInAnother(t *testing.T) {
	r := rand.New(rand.NewSource(5))
	x := set(t, busy())
	for range 300 {
		x.Store(uint16(r.Intn(64)), uint8(r.Intn(256)))
		steps(x, r.Intn(40))
		y, z := tia.New(0), x.Copy()
		if e := y.Set(x.Words()); e != api.OK {
			t.Fatalf("P21.2: Set(%v): %d", x.Words(), e)
		}
		for range 300 {
			a, b := y.Step(), z.Step()
			if a != b || !slices.Equal(y.Words(), z.Words()) {
				t.Fatalf("P21.2: %v, and of a copy %v", a, b)
			}
		}
	}
}

// Neither a chip nor its copy goes on with the other one.
func TestCopy(t *testing.T) {
	r := rand.New(rand.NewSource(6))
	for range 60 {
		m := random(r)
		x := set(t, m)
		y := x.Copy()
		if x == y {
			t.Fatal("P21.2: a copy is the chip itself")
		}
		has(t, "P21.2", y, m)
		spoil := func(z *tia.Tia) {
			for addr := range uint16(64) {
				z.Store(addr, uint8(r.Intn(256)))
				z.In(int(addr)%6, uint8(r.Intn(256)))
			}
			z.Store(0x2A, 0)
			steps(z, 500)
		}
		spoil(x)
		has(t, "P21.2", y, m)
		other := x.Words()
		n := m.copy()
		for range 300 {
			step(t, "P21.2", y, n)
		}
		spoil(y)
		if !slices.Equal(x.Words(), other) {
			t.Fatal("P21.2: a chip goes on with its copy")
		}
		x.Set(m.w[:])
		if slices.Equal(y.Words(), m.w[:]) {
			t.Fatal("P21.2: a copy is set with its chip")
		}
	}
}
