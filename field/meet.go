package field

// pairs are the pairs that may meet, in their order.
var pairs = [...][2]int{
	{M0, P1}, {M0, P0}, {M1, P0}, {M1, P1},
	{P0, PF}, {P0, BL}, {P1, PF}, {P1, BL},
	{M0, PF}, {M0, BL}, {M1, PF}, {M1, BL},
	{BL, PF}, {P0, P1}, {M0, M1},
}

// The registers that tell of pairs: the last but one tells of one pair alone.
const (
	registers = 8
	lonely    = 6
)

// Meet tells which pairs meet.
func Meet(dots [6]bool) uint16 {
	both := func(pair [2]int) bool { return dots[pair[0]] && dots[pair[1]] }
	var met uint16
	for n := range len(pairs) {
		if both(pairs[n]) {
			met |= 1 << n
		}
	}
	return met
}

// Tell tells what a register tells of pairs.
func Tell(met uint16, register int) uint8 {
	if register < 0 || register >= registers {
		return 0
	}
	n := 2 * register
	if register > lonely {
		n-- // the lonely one has left a place
	}
	told := bit(met, n) << 7
	if register != lonely {
		told |= bit(met, n+1) << 6
	}
	return told
}

func bit(met uint16, n int) uint8 { return uint8(met >> n & 1) }
