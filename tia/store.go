package tia

import "woodgrain/api"

// addressBits are those of a written address that count.
const addressBits = 0x3F

// The addresses at which a write does more than to set a register of one byte;
// of some there are two, one for each player or voice, of reset five.
const (
	vblankAt  = 0x01
	wsyncAt   = 0x02
	rsyncAt   = 0x03
	resetAt   = 0x10
	controlAt = 0x15
	rateAt    = 0x17
	volumeAt  = 0x19
	grp0At    = 0x1B
	grp1At    = 0x1C
	enablAt   = 0x1F
	resmpAt   = 0x28
	hmoveAt   = 0x2A
	hmclrAt   = 0x2B
	cxclrAt   = 0x2C
)

// Store writes a byte.
func (t *Tia) Store(addr uint16, v uint8) {
	if t == nil {
		return
	}
	addr &= addressBits
	// What a write does besides comes first: a missile's lock is held against
	// what was written ahead of this.
	t.besides(addr, v)
	if at, is := places()[addr]; is {
		t.registers[at] = v
	}
}

// besides does what a write does beside setting a register of one byte.
func (t *Tia) besides(addr uint16, v uint8) {
	r := &t.registers
	switch addr {
	case vblankAt:
		t.pots.Dump(v&dumpBit != 0)
		t.pots.Latch(v&latchBit != 0)
	case wsyncAt:
		t.waits = true
	case rsyncAt:
		t.beam.Reset()
	case resetAt, resetAt + 1, resetAt + 2, resetAt + 3, resetAt + 4:
		t.things[addr-resetAt].Put(0)
	case controlAt, controlAt + 1:
		t.voices[addr-controlAt].Control(v)
	case rateAt, rateAt + 1:
		t.voices[addr-rateAt].Rate(v)
	case volumeAt, volumeAt + 1:
		t.voices[addr-volumeAt].Volume(v)
	case grp1At:
		r[ballOn+oldState] = r[ballOn+newState]
		fallthrough
	case grp0At:
		// A player's graphic is old from the other player's write on.
		r.keepGraphic(int(grp1At - addr))
	case enablAt:
		r[ballOn+newState] = (v & onBit) / onBit
	case resmpAt, resmpAt + 1:
		t.unlock(int(addr-resmpAt), v)
	case hmoveAt:
		t.motion.Strobe()
		t.beam.Comb()
	case hmclrAt:
		clear(r[hm:vdel])
	case cxclrAt:
		t.met = 0
	}
}

// unlock puts a missile on its player, if it was locked and is not by v.
func (t *Tia) unlock(player int, v uint8) {
	if !t.registers.isOn(resmp+player) || v&onBit != 0 {
		return
	}
	behind := [...]int{1: 5, 2: 10, 4: 18}[t.registers.width(player)]
	count := t.things[player].Count() - behind
	t.things[players+player].Put((count + api.Seen) % api.Seen)
}
