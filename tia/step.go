package tia

import (
	"woodgrain/api"
	"woodgrain/field"
)

// The clocks at which the voices tick.
const (
	firstBeat  = 57
	secondBeat = 171
)

// Leads.
const (
	playerLead = 5
	wideLead   = 6 // of a player whose dots are wider than 1
	barLead    = 4 // of a missile and the ball
)

// Step is a colour clock.
func (t *Tia) Step() Dot {
	if t == nil {
		return Dot{}
	}
	begins := t.begin()
	clock, dark := t.beam.Clock(), t.beam.Dark()
	d := Dot{Clock: clock, Begins: begins}
	d.Blank = dark || t.registers.isOn(vblank)
	d.Sync = t.beam.Pulse() || t.registers.isOn(vsync)
	t.move(clock, dark)
	if !dark {
		colour := t.draw(clock - api.Dark)
		if !d.Blank {
			d.Pixel = colour
		}
	}
	d.Audio = t.sound(clock)
	t.beam.Next()
	return d
}

// begin begins the clock: does it begin a line?
func (t *Tia) begin() bool {
	if !t.beam.Begin() {
		return false
	}
	t.waits = false
	t.pots.Line()
	return true
}

// move ticks the things that are moved: where it is not dark, they tick anyway.
func (t *Tia) move(clock int, dark bool) {
	told := t.motion.Step(clock, t.registers.nibbles())
	for n, moves := range told {
		if moves && dark {
			t.tick(n)
		}
	}
}

func (t *Tia) tick(n int) { t.things[n].Tick(t.registers.copies(n)) }

// draw does a pixel, and tells its colour.
func (t *Tia) draw(x int) uint8 {
	dots, control := t.dots(x), t.registers[ctrlpf]
	t.met |= field.Meet(dots)
	for n := range t.things {
		t.tick(n)
	}
	return t.registers[colours+field.Seen(dots, control, x)] &^ colourBit
}

// dots tells what is at a pixel.
func (t *Tia) dots(x int) [6]bool {
	var dots [things + 1]bool
	for n := range t.things {
		dots[n] = t.isThere(n)
	}
	dots[field.PF] = field.Lit(t.registers.field(), t.registers[ctrlpf], x)
	return dots
}

func (t *Tia) isThere(n int) bool {
	r := &t.registers
	switch {
	case n < players:
		return t.isPlayerThere(n)
	case n < ball:
		player := n - players
		return r.isOn(enam+player) && !r.isOn(resmp+player) && t.isBarThere(n, r[nusiz+player])
	}
	return r.isBallOn() && t.isBarThere(n, r[ctrlpf])
}

func (t *Tia) isPlayerThere(n int) bool {
	r := &t.registers
	width, lead := r.width(n), playerLead
	if width > 1 {
		lead = wideLead
	}
	return field.Graph(r.seenGraphic(n), r[refp+n]&mirrorBit != 0, width, t.things[n].Dot(lead))
}

// isBarThere: is a missile or the ball there, if it is on? Two bits of a
// register tell how wide it is.
func (t *Tia) isBarThere(n int, size uint8) bool {
	dot := t.things[n].Dot(barLead)
	return dot >= 0 && dot < 1<<(size>>4&3)
}

// sound ticks the voices at their clocks, and tells their levels together.
func (t *Tia) sound(clock int) uint8 {
	var level uint8
	for _, v := range t.voices {
		if clock == firstBeat || clock == secondBeat {
			v.Tick()
		}
		level += v.Level()
	}
	return level
}
