package pot

// button is a fire button with its latch.
type button struct{ high, latch bool }

// under is what the button comes to while the buttons are latched, or are not.
// To ask it again changes nothing: a button that it changes can't be.
func (b button) under(latched bool) button {
	b.latch = !latched || b.latch && b.high
	return b
}
