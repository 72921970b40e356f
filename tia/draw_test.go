package tia_test

import (
	"math/rand"
	"slices"
	"testing"

	"woodgrain/tia"
)

// row are the pixels of the next line that have a colour.
func row(x *tia.Tia, colour uint8) []int {
	var out []int
	for clock, d := range line(x) {
		if d.Pixel == colour {
			out = append(out, clock-68)
		}
	}
	return out
}

// drawn is a chip whose things were strobed at a pixel, in a line that is over;
// they have the colours 2 (player 0), 4 (player 1) and 6 (the ball).
func drawn(pixel int) *tia.Tia {
	x := tia.New(68 + pixel)
	store(x, 0x06, 2, 0x07, 4, 0x08, 6, 0x10, 0, 0x11, 0, 0x12, 0, 0x13, 0, 0x14, 0)
	steps(x, 228)
	return x
}

// around are the pixels, told from one of a line on, in order.
func around(first int, pixels ...int) []int {
	out := []int{}
	for _, p := range pixels {
		out = append(out, (first+p)%160)
	}
	slices.Sort(out)
	return out
}

// Players by the lower three bits of NUSIZ; the graphic has its dots 0 and 6.
func TestPlayers(t *testing.T) {
	rows := [8][]int{
		{5, 11}, {5, 11, 21, 27}, {5, 11, 37, 43}, {5, 11, 21, 27, 37, 43},
		{5, 11, 69, 75}, {6, 7, 18, 19}, {5, 11, 37, 43, 69, 75}, {6, 7, 8, 9, 30, 31, 32, 33},
	}
	mirrored := [8][]int{
		{6, 12}, {6, 12, 22, 28}, {6, 12, 38, 44}, {6, 12, 22, 28, 38, 44},
		{6, 12, 70, 76}, {8, 9, 20, 21}, {6, 12, 38, 44, 70, 76}, {10, 11, 12, 13, 34, 35, 36, 37},
	}
	for _, pixel := range []int{0, 10, 60, 130, 159} {
		for player := range 2 {
			x := drawn(pixel)
			x.Store(uint16(0x1B+player), 0x82)
			for n := range 32 {
				nusiz := n%8 | []int{0, 0x08, 0x30, 0xC8}[n/8]
				x.Store(uint16(0x04+player), uint8(nusiz))
				for _, refp := range []int{0, 0xF7, 8} {
					want := rows[nusiz%8]
					if refp == 8 {
						want = mirrored[nusiz%8]
					}
					x.Store(uint16(0x0B+player), uint8(refp))
					line(x) // the copies have started then
					if got := row(x, uint8(2+2*player)); !slices.Equal(got, around(pixel, want...)) {
						t.Fatalf("P21.1: player %d from %d on, NUSIZ %X, REFP %X: %v", player, pixel, nusiz, refp, got)
					}
				}
			}
		}
	}
}

// Missiles by NUSIZ: as wide as its bits 4 and 5 say, with their player's copies.
func TestMissiles(t *testing.T) {
	for _, pixel := range []int{0, 50, 150, 159} {
		for player := range 2 {
			x := drawn(pixel)
			x.Store(uint16(0x1D+player), 2)
			for nusiz := range 256 {
				x.Store(uint16(0x04+player), uint8(nusiz))
				var want []int
				for _, start := range starts[nusiz%8] {
					for k := range []int{1, 2, 4, 8}[nusiz/16%4] {
						want = append(want, start+4+k)
					}
				}
				line(x)
				if got := row(x, uint8(2+2*player)); !slices.Equal(got, around(pixel, want...)) {
					t.Fatalf("P21.1: missile %d from %d on, NUSIZ %X: %v", player, pixel, nusiz, got)
				}
			}
		}
	}
}

// A missile is there, if bit 1 of ENAM is set and bit 1 of RESMP is not.
func TestMissileOn(t *testing.T) {
	for player := range 2 {
		x := drawn(20)
		for v := range 256 {
			for _, lock := range []int{0, 0xFD, 2, 0xFF} {
				store(x, 0x1D+player, v, 0x28+player, lock)
				there := len(row(x, uint8(2+2*player))) > 0
				if there != (v&2 != 0 && lock&2 == 0) {
					t.Errorf("P21.1: missile %d with ENAM %X, RESMP %X is there: %v", player, v, lock, there)
				}
			}
		}
	}
}

// A missile that was locked comes to the middle of its player, whose dots are
// 1, 2 or 4 wide.
func TestMissileInTheMiddle(t *testing.T) {
	for nusiz, want := range map[int]int{0: 45, 5: 50, 7: 58} {
		x := drawn(36)
		store(x, 0x04, nusiz, 0x1D, 2, 0x28, 2)
		line(x)
		store(x, 0x28, 0)
		line(x)
		if got := row(x, 2); !slices.Equal(got, []int{want}) {
			t.Errorf("P21.1: NUSIZ %d: %v", nusiz, got)
		}
	}
}

// The ball by CTRLPF: as wide as its bits 4 and 5 say, and never with copies.
func TestBall(t *testing.T) {
	for _, pixel := range []int{0, 77, 152, 159} {
		x := drawn(pixel)
		store(x, 0x1F, 2, 0x04, 3, 0x05, 6)
		for control := range 256 {
			x.Store(0x0A, uint8(control))
			var want []int
			for k := range []int{1, 2, 4, 8}[control/16%4] {
				want = append(want, 4+k)
			}
			if got := row(x, 6); !slices.Equal(got, around(pixel, want...)) {
				t.Fatalf("P21.1: ball from %d on, CTRLPF %X: %v", pixel, control, got)
			}
		}
	}
}

// Of the new and the old graphic the old one counts, if bit 0 of VDEL is set.
func TestDelay(t *testing.T) {
	for vdel := range 256 {
		x := drawn(10)
		store(x, 0x1B, 0x80, 0x1C, 0x40, 0x1B, 0x20, 0x25, vdel)
		want := 15 // the old graphic is 80
		if vdel%2 == 0 {
			want = 17 // the new one 20
		}
		if got := row(x, 2); !slices.Equal(got, []int{want}) {
			t.Errorf("P21.1: player 0 with VDEL %X: %v", vdel, got)
		}
		x = drawn(10)
		store(x, 0x1C, 0x80, 0x1B, 0x40, 0x1C, 0x20, 0x26, vdel, 0x1B, 0)
		want = 17 // both are 20 by now
		if got := row(x, 4); !slices.Equal(got, []int{want}) {
			t.Errorf("P21.1: player 1 with VDEL %X: %v", vdel, got)
		}
		x = drawn(10)
		store(x, 0x1C, 0x80, 0x1B, 0x40, 0x1C, 0x20, 0x26, vdel)
		if vdel%2 == 1 {
			want = 15
		}
		if got := row(x, 4); !slices.Equal(got, []int{want}) {
			t.Errorf("P21.1: player 1 with VDEL %X: %v", vdel, got)
		}
		for _, on := range [][2]int{{2, 0}, {0, 2}, {2, 2}, {0xFD, 0xFF}, {0, 0}} { // the old one, the new one
			x = drawn(10)
			store(x, 0x1F, on[0], 0x1C, 0, 0x1F, on[1], 0x27, vdel)
			there := len(row(x, 6)) > 0
			if counts := on[1-vdel%2]; there != (counts&2 != 0) {
				t.Errorf("P21.1: the ball, old and new %X, with VDEL %X is there: %v", on, vdel, there)
			}
		}
	}
}

// The VDEL of one is not that of another one.
func TestDelayOfEach(t *testing.T) {
	for n := range 8 {
		x := drawn(10)
		store(x, 0x1B, 0x80, 0x1C, 0x80, 0x1F, 0, 0x1B, 0, 0x1C, 0x80, 0x1F, 2)
		// Old: player 0 has none, player 1 has 80, the ball is off.
		store(x, 0x25, n&1, 0x26, n>>1&1, 0x27, n>>2&1, 0x1B, 0x20)
		p0, p1, ball := row(x, 2), row(x, 4), row(x, 6)
		if len(p0) != 1-n&1 || len(ball) != 1-n>>2 || !slices.Contains(p1, 15) {
			t.Errorf("P21.1: VDEL %d: %v, %v, %v", n, p0, p1, ball)
		}
	}
}

// The field, by the bits of CTRLPF: mirrored, of two colours, above the players.
func TestField(t *testing.T) {
	x := drawn(0) // the players are at 5 to 12
	store(x, 0x0D, 0x20, 0x0E, 0x40, 0x0F, 0x80, 0x1B, 0xFF, 0x09, 8)
	left := []int{4, 5, 6, 7, 20, 21, 22, 23, 76, 77, 78, 79}
	right := []int{84, 85, 86, 87, 100, 101, 102, 103, 156, 157, 158, 159}
	mirrored := []int{80, 81, 82, 83, 136, 137, 138, 139, 152, 153, 154, 155}
	for control := range 256 {
		x.Store(0x0A, uint8(control))
		field := slices.Concat(left, right)
		if control%2 == 1 {
			field = slices.Concat(left, mirrored)
		}
		for clock, d := range line(x) {
			want := uint8(8)
			at := clock - 68
			lit, player := slices.Contains(field, at), at >= 5 && at <= 12
			switch {
			case at < 0:
				want = 0
			case lit && control&4 != 0:
				want = 6
			case player:
				want = 2
			case lit && control&2 != 0 && at < 80:
				want = 2
			case lit && control&2 != 0:
				want = 4
			case lit:
				want = 6
			}
			if d.Pixel != want {
				t.Fatalf("P21.1: CTRLPF %X: pixel %d is %d", control, at, d.Pixel)
			}
		}
	}
}

// closed tells of a line's pixels what the registers and the counts at its
// beginning say, without a step; and which pairs meet on it.
func (m *model) closed() (pixels [160]uint8, pairs int) {
	for x := range pixels {
		var dots [6]bool
		for thing := range 5 {
			copies, _, lead := m.shape(thing)
			for _, start := range starts[copies] {
				age := (m.w[aThings+3*thing] + x - start + 160) % 160
				dots[thing] = dots[thing] || m.hasDot(thing, age-lead)
			}
		}
		dots[5] = m.lit(x)
		colour, meet := m.paint(dots, x)
		if m.w[aVBLANK]&2 == 0 {
			pixels[x] = colour
		}
		pairs |= meet
	}
	return pixels, pairs
}

// Of lines on which and ahead of which nothing is written each pixel is a
// function of the registers and the counts, whatever came ahead of that.
func TestQuietLines(t *testing.T) {
	for seed := range int64(400) {
		r := rand.New(rand.NewSource(seed))
		x := set(t, random(r))
		for range r.Intn(400) {
			if r.Intn(20) == 0 { // things are strobed, locked and moved
				x.Store([]uint16{0x10, 0x11, 0x12, 0x13, 0x14, 0x28, 0x29, 0x2A, 0x04, 0x05}[r.Intn(10)], uint8(r.Intn(256)))
			}
			x.Step()
		}
		if seed%4 > 0 {
			x.Store(0x01, 0) // most lines are not blank
		}
		for {
			if w := x.Words(); w[aClock] == 0 && w[aMotion] == 16 {
				break
			}
			x.Step()
		}
		line(x)
		for range 3 {
			var m model
			copy(m.w[:], x.Words())
			pixels, pairs := m.closed()
			for clock, d := range line(x) {
				if clock >= 68 && d.Pixel != pixels[clock-68] {
					t.Fatalf("P21.3: run %d, pixel %d: %X, not %X", seed, clock-68, d.Pixel, pixels[clock-68])
				}
			}
			if met := x.Words()[aMet]; met != m.w[aMet]|pairs {
				t.Fatalf("P21.3: run %d: ahead %X, on the line %X; met have %X", seed, m.w[aMet], pairs, met)
			}
			if counts := x.Counts(); counts != [5]int{m.w[5], m.w[8], m.w[11], m.w[14], m.w[17]} {
				t.Fatalf("P21.3: run %d: from %v to %v", seed, m.w[aThings:aVoices], counts)
			}
			x.Store(0x2C, 0)
		}
	}
}
