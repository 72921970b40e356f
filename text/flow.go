package text

import "woodgrain/code"

// lastAddress is the last one at which a byte is reached.
const lastAddress = 0xFFFF

// flow is how far the codes of some bytes were followed.
type flow struct {
	*book
	first   uint16 // the address of the first byte
	bytes   []byte // up to the last address
	reached []bool // of each byte
	begun   []bool // of each byte: a code that is reached begins there
	ahead   []int  // where codes begin that are to be followed still
}

// Flow tells which bytes are reached.
func Flow(at uint16, l []byte, entries []uint16) []bool {
	room := min(len(l), lastAddress+1-int(at))
	f := flow{book: newBook(), first: at, bytes: l[:room], reached: make([]bool, len(l)), begun: make([]bool, room)}
	for _, entry := range entries {
		f.reach(entry)
	}
	for len(f.ahead) > 0 {
		last := len(f.ahead) - 1
		place := f.ahead[last]
		f.ahead = f.ahead[:last]
		f.follow(place)
	}
	return f.reached
}

// reach marks the code at an address, if it is there whole, and keeps it to be
// followed once.
func (f *flow) reach(at uint16) {
	place := int(at) - int(f.first)
	if place < 0 || place >= len(f.bytes) || f.begun[place] {
		return
	}
	end := place + f.page(f.bytes[place]).length
	if end > len(f.bytes) {
		return
	}
	f.begun[place] = true
	f.ahead = append(f.ahead, place)
	for i := place; i < end; i++ {
		f.reached[i] = true
	}
}

// follow reaches where the code at a place may go on.
func (f *flow) follow(place int) {
	p := f.page(f.bytes[place])
	at := f.first + uint16(place)
	behind := at + uint16(p.length)
	switch p.Kind {
	case code.KJump:
		if p.Mode == code.Abs {
			f.reach(f.operand(place))
		}
	case code.KCall:
		f.reach(f.operand(place))
		f.reach(behind)
	case code.KBranch:
		f.reach(target(at, f.bytes[place+1]))
		f.reach(behind)
	case code.KBack, code.KReturn, code.KBreak, code.KJam:
	default:
		f.reach(behind)
	}
}

// operand is the address behind the code at a place.
func (f *flow) operand(place int) uint16 {
	return word(f.bytes[place+1], f.bytes[place+2])
}
