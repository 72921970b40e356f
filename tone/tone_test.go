package tone_test

import (
	"math"
	"math/rand"
	"slices"
	"strconv"
	"testing"

	"woodgrain/api"
	"woodgrain/tone"
)

// voice is a voice at power-on with these registers.
func voice(control, rate, volume uint8) *tone.Voice {
	v := tone.New()
	v.Control(control)
	v.Rate(rate)
	v.Volume(volume)
	return v
}

// levels are what a voice tells behind each of so many ticks.
func levels(v *tone.Voice, n int) []uint8 {
	out := make([]uint8, n)
	for i := range out {
		v.Tick()
		out[i] = v.Level()
	}
	return out
}

func TestNew(t *testing.T) {
	v, w := tone.New(), tone.New()
	has(t, "P19.1", v, model{})
	if v.Words() != [8]int{} || v.Level() != 0 {
		t.Errorf("P19.1: at power-on %v, level %d", v.Words(), v.Level())
	}
	w.Control(4)
	w.Volume(15)
	w.Tick()
	has(t, "R5", v, model{})
}

func TestRegistersTakeLowerBits(t *testing.T) {
	start := [8]int{3, 21, 9, 6, 17, 300, 50, 1}
	for n := range 256 {
		v, m := set(t, start), of(start)
		v.Control(uint8(n))
		m.control = n % 16
		has(t, "P19.1", v, m)
		v.Rate(uint8(n))
		m.rate = n % 32
		has(t, "P19.1", v, m)
		v.Volume(uint8(n))
		m.volume = n % 16
		has(t, "P19.1", v, m)
	}
}

func TestExamples(t *testing.T) {
	v := voice(4, 0, 9)
	for i, n := range levels(v, 40) {
		if want := [2]uint8{9, 0}[i%2]; n != want {
			t.Errorf("P19.1: control 4, behind tick %d: %d", i+1, n)
		}
	}
	v = voice(0, 0, 7)
	for i, n := range levels(v, 40) {
		if n != 7 {
			t.Errorf("P19.1: control 0, behind tick %d: %d", i+1, n)
		}
	}
}

// Whether a voice is high behind each beat tick from power-on on, by its control:
// worked out of the chapter's words apart from the model.
func TestRowsOfControls(t *testing.T) {
	rows := [16]string{
		"00001110110010100001110110010100001110110010100001110110010100",
		"00001110110010100001110110010100001110110010100001110110010100",
		"00000000000000000000000000000000000000000000000000000000000000",
		"00000000000000111110111000111011111100000000011111011100011101",
		"10101010101010101010101010101010101010101010101010101010101010",
		"10101010101010101010101010101010101010101010101010101010101010",
		"00000000000000000111111111111100000000000000000011111111111110",
		"00000101110000110010100100111011111101000111100110101101100010",
		"00000000011111000010000011101000110011011111011010110001001011",
		"00000111001000101011110110100110000011100100010101111011010011",
		"00000000000000000000000000000011111111111111111100000000000001",
		"00000111111111111111111111111111111111111111111111111111111111",
		"00111000111000111000111000111000111000111000111000111000111000",
		"00111000111000111000111000111000111000111000111000111000111000",
		"00000000000000000000000000000000000000000000000000000111111111",
		"00000000000000000111000111111111000000000000111111000000111000",
	}
	for control, want := range rows {
		v := voice(uint8(control), 0, 1)
		got := ""
		for range want {
			v.Tick()
			got += strconv.Itoa(v.Words()[7])
		}
		if got != want {
			t.Errorf("P19.1: control %d: %s, not %s", control, got, want)
		}
	}
}

// How many ticks a beat takes, by control and rate, numbers above them too.
func TestLength(t *testing.T) {
	for control := range 256 {
		for _, rate := range []int{0, 1, 2, 15, 30, 31, 32, 33, 63, 64, 255} {
			want := rate%32 + 1
			if control%16 >= 12 {
				want *= 3
			}
			v := voice(uint8(control), uint8(rate), 1)
			for beat := 1; beat <= 3; beat++ {
				for n := 1; n <= want; n++ {
					if got := v.Words(); got[6] != n-1 || got[4] != stepsFrom0(5, 2, beat-1) {
						t.Fatalf("P19.1: control %d, rate %d, beat %d, tick %d: %v", control, rate, beat, n, got)
					}
					v.Tick()
				}
				if got := v.Words(); got[6] != 0 || got[4] != stepsFrom0(5, 2, beat) {
					t.Fatalf("P19.1: control %d, rate %d: behind %d ticks no beat: %v", control, rate, want, got)
				}
			}
		}
	}
}

// Each count, below the length's end, at it, and beyond it, where a rate or a
// control has been made shorter.
func TestTickOfEachCount(t *testing.T) {
	for count := range 96 {
		for rate := range 32 {
			for control := range 16 {
				oneTick(t, [8]int{control, rate, 5, 1, 2, 3, count, 0})
			}
		}
	}
}

func TestLengthMadeShorter(t *testing.T) {
	v := voice(4, 31, 3)
	levels(v, 20)
	v.Rate(20) // the count and 1 is at the new length
	v.Tick()
	if w := v.Words(); w[6] != 0 || w[7] != 1 || w[4] != 16 {
		t.Errorf("P19.1: rate 20 behind 20 ticks: %v", w)
	}
	levels(v, 15)
	v.Rate(3) // it is far beyond the new one
	v.Tick()
	if w := v.Words(); w[6] != 0 || w[7] != 0 {
		t.Errorf("P19.1: rate 3 behind 15 ticks: %v", w)
	}
	v = voice(12, 31, 3)
	levels(v, 95)
	if w := v.Words(); w[6] != 95 || w[7] != 0 {
		t.Errorf("P19.1: the last count of all: %v", w)
	}
	v.Control(4)
	v.Tick()
	if w := v.Words(); w[6] != 0 || w[7] != 1 || w[4] != 16 {
		t.Errorf("P19.1: control 4 behind 95 ticks of 12: %v", w)
	}
	v.Rate(5)
	levels(v, 5)
	v.Rate(31) // longer: it goes on
	if v.Tick(); v.Words()[6] != 6 {
		t.Errorf("P19.1: a longer rate: %v", v.Words())
	}
}

// A beat from all states of the polys (4, 1) and (5, 2), by each control.
func TestBeatOfEachState(t *testing.T) {
	for control := range 16 {
		for five := range 32 {
			for four := range 16 {
				for high := range 2 {
					oneTick(t, [8]int{control, 0, 11, four, five, 0x155, 2, high})
				}
			}
			for nine := range 512 {
				oneTick(t, [8]int{control, 0, 12, 9, five, nine, 2, nine % 2})
			}
		}
	}
}

// No poly but (5, 2) steps, if the control doesn't ask it to.
func TestWhichPolysStep(t *testing.T) {
	for control := range uint8(16) {
		v := voice(control, 0, 1)
		levels(v, 31*15*2)
		w := v.Words()
		four := map[uint8]int{0: 930, 1: 930, 2: 60, 3: 450}[control]
		nine := map[uint8]int{8: 930}[control]
		want := [8]int{int(control), 0, 1, stepsFrom0(4, 1, four), 0, stepsFrom0(9, 4, nine), 0, w[7]}
		if w != want {
			t.Errorf("P19.1: control %d: %v, not %v", control, w, want)
		}
	}
}

// Two states of 31 let a beat of the controls 2, 6, 10 and 14 go on: those that
// come behind 0 and 18 steps from 0, once the poly has stepped.
func TestGateOfTwoStates(t *testing.T) {
	for control := 2; control < 16; control += 4 {
		for steps := range 31 {
			state := stepsFrom0(5, 2, (steps+30)%31)
			for high := range 2 {
				w := [8]int{control, 0, 1, 0xF, state, 0, 95, high}
				v := set(t, w)
				v.Tick()
				on := steps == 0 || steps == 18
				want := [8]int{control, 0, 1, 0xF, stepsFrom0(5, 2, steps), 0, 0, high}
				switch {
				case on && control&4 != 0:
					want[7] = 1 - high
				case on && control == 10:
					want[7] = state % 2
				case on:
					want[7] = 1 // what falls out of 15
				}
				if v.Words() != want {
					t.Errorf("P19.1: control %d, to %d steps: %v, not %v", control, steps, v.Words(), want)
				}
			}
		}
		// 31 never comes from 0 on: it is none of the two, and stays.
		v := set(t, [8]int{control, 0, 1, 0xF, 31, 0, 0, 0})
		for range 40 {
			v.Tick()
			if w := v.Words(); w[3] != 0xF || w[4] != 31 || w[7] != 0 {
				t.Errorf("P19.1: control %d from 31: %v", control, w)
			}
		}
	}
}

// Five is the bit that falls out, as the poly was ahead of its step.
func TestGateOfFive(t *testing.T) {
	for _, control := range []int{3, 7, 11, 15} {
		for state := range 32 {
			for high := range 2 {
				w := [8]int{control, 0, 1, 0xF, state, 0, 95, high}
				v := set(t, w)
				v.Tick()
				next, five := step(5, 2, state)
				want := high
				if five == 1 {
					want = 1
					if control&4 != 0 {
						want = 1 - high
					}
				}
				if got := v.Words(); got[7] != want || got[4] != next {
					t.Errorf("P19.1: control %d from %v: %v", control, w, got)
				}
			}
		}
	}
}

func TestLevel(t *testing.T) {
	for control := range 16 {
		for volume := range 256 {
			for high := range 2 {
				v := set(t, [8]int{control, 0, 0, 0, 0, 0, 0, high})
				v.Volume(uint8(volume))
				want := volume % 16
				if high == 0 && control != 0 && control != 11 {
					want = 0
				}
				for range 2 { // to ask changes nothing
					if int(v.Level()) != want {
						t.Errorf("P19.1: control %d, volume %d, high %d: %d", control, volume, high, v.Level())
					}
				}
			}
		}
	}
	v := tone.New()
	for n := range 256 { // low all the time
		v.Volume(uint8(n))
		v.Control(uint8(n))
		want := uint8(n % 16)
		if want != 11 {
			want = 0
		}
		if v.Level() != want {
			t.Errorf("P19.1: control and volume %d: %d", n, v.Level())
		}
	}
}

// A register that is set turns nothing, and steps nothing, high or low.
func TestControlChanged(t *testing.T) {
	for high := range 2 {
		for from := range 16 {
			for to := range 16 {
				w := [8]int{from, 1, 6, 5, 19, 77, 1, high}
				v, m := set(t, w), of(w)
				for range 40 {
					v.Control(uint8(to))
					m.control = to
					has(t, "P19.1", v, m)
					v.Tick()
					m.tick()
					has(t, "P19.1", v, m)
					v.Control(uint8(from))
					m.control = from
					has(t, "P19.1", v, m)
					v.Tick()
					m.tick()
					has(t, "P19.1", v, m)
				}
			}
		}
	}
}

func TestLongRuns(t *testing.T) {
	for seed := range int64(20) {
		r := rand.New(rand.NewSource(seed))
		v, m := tone.New(), model{}
		for range 20000 {
			n := r.Intn(256)
			switch k := r.Intn(200 + 100*int(seed)); {
			case k == 0:
				v.Control(uint8(n))
				m.control = n % 16
			case k == 1:
				n &= r.Intn(256) // short ones more often
				v.Rate(uint8(n))
				m.rate = n % 32
			case k == 2:
				v.Volume(uint8(n))
				m.volume = n % 16
			case k == 3:
				v = v.Copy()
			case k == 4:
				v = set(t, v.Words())
			}
			v.Tick()
			m.tick()
			has(t, "P19.1", v, m)
		}
	}
}

// most are the ends of the words.
var most = [8]int{15, 31, 15, 15, 31, 511, 95, 1}

func TestSetTakesAllThatCanBe(t *testing.T) {
	for place, last := range most {
		for n := range last + 1 {
			for _, w := range [][8]int{{}, most, {1, 2, 3, 4, 5, 6, 7, 1}} {
				w[place] = n
				v := set(t, [8]int{7, 7, 7, 7, 7, 7, 7, n % 2})
				if e := v.Set(w); e != api.OK {
					t.Fatalf("P19.2: Set(%v): %d", w, e)
				}
				has(t, "P19.2", v, of(w))
			}
		}
	}
}

func TestSetRefuses(t *testing.T) {
	for _, good := range [][8]int{{}, most, {6, 20, 13, 9, 21, 401, 60, 1}} {
		v := set(t, good)
		for place, last := range most {
			for _, n := range []int{-1, -256, last + 1, last + 2, last + 256, 512, 1 << 16, 1 << 32, math.MinInt, math.MaxInt} {
				w := [8]int{1, 1, 1, 1, 1, 1, 1, 0}
				w[place] = n
				if e := v.Set(w); e != api.ErrRange {
					t.Errorf("P19.2: Set(%v): %d", w, e)
				}
				has(t, "R2", v, of(good))
				for i := range place { // each one ahead of it would be another one
					w[i] = most[i] - good[i]
				}
				if e := v.Set(w); e != api.ErrRange {
					t.Errorf("P19.2: Set(%v): %d", w, e)
				}
				has(t, "R2", v, of(good))
			}
		}
	}
}

// The words that a voice has make another one that goes on as it does, and so
// does its copy.
func TestWordsFromOneSetInAnother(t *testing.T) {
	for control := range uint8(16) {
		v := voice(control, control%5, 9)
		w := set(t, most)
		for k := range 200 {
			if e := w.Set(v.Words()); e != api.OK {
				t.Fatalf("P19.2: Set(%v): %d", v.Words(), e)
			}
			x, m := v.Copy(), of(v.Words())
			for range 40 {
				has(t, "P19.2", w, m)
				has(t, "P19.2", x, m)
				w.Tick()
				x.Tick()
				m.tick()
			}
			v.Tick()
			if k == 100 {
				v.Rate(0)
			}
		}
	}
}

// Neither a voice nor its copy goes on with the other one.
func TestCopy(t *testing.T) {
	for control := range 16 {
		start := [8]int{control, 0, 9, 5, 20, 300, 0, 1}
		m := of(start)
		v := set(t, start)
		w := v.Copy()
		if v == w {
			t.Fatal("P19.2: a copy is the voice itself")
		}
		has(t, "P19.2", w, m)
		v.Control(3)
		v.Rate(4)
		v.Volume(5)
		levels(v, 50)
		has(t, "P19.2", w, m)
		x := w.Copy()
		for range 50 {
			m.tick()
		}
		levels(w, 50)
		has(t, "P19.2", w, m)
		has(t, "P19.2", x, of(start))
		w.Set(most)
		has(t, "P19.2", x, of(start))
		x.Set([8]int{})
		has(t, "P19.2", w, of(most))
	}
}

func TestNilVoice(t *testing.T) {
	var v *tone.Voice
	v.Control(3)
	v.Rate(4)
	v.Volume(5)
	v.Tick()
	if v.Level() != 0 || v.Words() != [8]int{} || v.Copy() != nil {
		t.Error("P19.2: a nil voice has something")
	}
	for _, w := range [][8]int{{}, most, {16}, {0, 0, 0, 0, 0, 0, 0, 2}} {
		if e := v.Set(w); e != api.ErrArg {
			t.Errorf("P19.2: Set(%v) of nil: %d", w, e)
		}
	}
}

// With the controls 4 and 5 a voice comes round after twice its length, with 1
// after 15 times, and not sooner: from its first beat on, since ahead of that it
// is low by no bit.
func TestComesRound(t *testing.T) {
	for _, x := range []struct {
		control uint8
		lengths int
	}{{4, 2}, {5, 2}, {1, 15}, {20, 2}, {17, 15}} {
		for rate := range uint8(32) {
			want := x.lengths * int(rate+1)
			v := voice(x.control, rate, 15)
			levels(v, int(rate)) // the next tick beats
			told := levels(v, 6*want)
			for n := 1; n <= want; n++ {
				if again := slices.Equal(told[n:], told[:len(told)-n]); again != (n == want) {
					t.Fatalf("P19.3: control %d, rate %d: it comes round after %d: %v", x.control, rate, n, again)
				}
			}
		}
	}
}
