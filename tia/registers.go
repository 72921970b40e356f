package tia

// Where the registers stand, in the words' order. Of each that a player or its
// missile has there are two, one behind the other.
const (
	vsync         = 0
	vblank        = vsync + 1
	nusiz         = vblank + 1
	colours       = nusiz + players
	ctrlpf        = colours + manyColours
	refp          = ctrlpf + 1
	pf            = refp + players
	graphic       = pf + fieldBytes
	enam          = graphic + players*states
	ballOn        = enam + players
	hm            = ballOn + states
	vdel          = hm + things
	resmp         = vdel + players + 1
	manyRegisters = resmp + players
)

const (
	manyColours = 4 // of player 0, player 1, the field and the ground
	fieldBytes  = 3
)

// A graphic, and the ball's being on, has a new state, and behind it the old one.
const (
	newState = iota
	oldState
	states
)

// Bits of the registers.
const (
	onBit     = 0x02 // of VSYNC, VBLANK, ENAM, ENABL and RESMP
	dumpBit   = 0x80 // of VBLANK
	latchBit  = 0x40
	sizeBits  = 0x07 // of NUSIZ
	mirrorBit = 0x08 // of REFP
	delayBit  = 0x01 // of VDEL
	colourBit = 0x01 // of a colour: it is not told
)

// registers are the bytes that are written, in the words' order.
type registers [manyRegisters]uint8

// places tells where the register of one byte stands that an address writes.
func places() map[uint16]int {
	return map[uint16]int{
		0x00: vsync, 0x01: vblank,
		0x04: nusiz, 0x05: nusiz + 1,
		0x06: colours, 0x07: colours + 1, 0x08: colours + 2, 0x09: colours + 3,
		0x0A: ctrlpf,
		0x0B: refp, 0x0C: refp + 1,
		0x0D: pf, 0x0E: pf + 1, 0x0F: pf + 2,
		0x1B: graphic, 0x1C: graphic + states,
		0x1D: enam, 0x1E: enam + 1,
		0x20: hm, 0x21: hm + 1, 0x22: hm + 2, 0x23: hm + 3, 0x24: hm + 4,
		0x25: vdel, 0x26: vdel + 1, 0x27: vdel + 2,
		0x28: resmp, 0x29: resmp + 1,
	}
}

func (r *registers) isOn(register int) bool { return r[register]&onBit != 0 }

// copies is the number of a thing's copies.
func (r *registers) copies(thing int) uint8 {
	if thing == ball {
		return 0
	}
	return r[nusiz+thing%players]
}

// width is how many ticks a dot of a player's graphic lasts.
func (r *registers) width(player int) int {
	switch r[nusiz+player] & sizeBits {
	case 5:
		return 2
	case 7:
		return 4
	}
	return 1
}

// keepGraphic makes a player's new graphic its old one, too.
func (r *registers) keepGraphic(player int) {
	at := graphic + player*states
	r[at+oldState] = r[at+newState]
}

// seenGraphic is the one of a player's two graphics that counts.
func (r *registers) seenGraphic(player int) uint8 {
	return r[graphic+player*states+r.state(player)]
}

// isBallOn tells of the one of the ball's two states that counts.
func (r *registers) isBallOn() bool { return r[ballOn+r.state(players)] != 0 }

// state tells which one counts: of player 0, player 1 and the ball.
func (r *registers) state(n int) int {
	if r[vdel+n]&delayBit != 0 {
		return oldState
	}
	return newState
}

// nibbles are those by which the five things are moved.
func (r *registers) nibbles() [things]uint8 {
	n := [things]uint8(r[hm:vdel])
	for thing := range n {
		n[thing] >>= 4
	}
	return n
}

func (r *registers) field() [fieldBytes]uint8 { return [fieldBytes]uint8(r[pf:graphic]) }
