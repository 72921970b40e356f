package code

// The fewest cycles, by modes: from Imp to Izy. No other mode has a code of
// these kinds.
var (
	readCycles  = [11]int{2, 2, 2, 3, 4, 4, 4, 4, 4, 6, 5}
	storeCycles = [11]int{0, 0, 0, 3, 4, 4, 4, 5, 5, 6, 6}
	turnCycles  = [11]int{2, 2, 2, 5, 6, 6, 6, 7, 7, 8, 8}
)

// Cycles tells how many cycles it takes at least.
func Cycles(op uint8) int {
	c := Of(op)
	switch c.Kind {
	case KSelf, KRead:
		return readCycles[c.Mode]
	case KStore:
		return storeCycles[c.Mode]
	case KTurn:
		return turnCycles[c.Mode]
	}
	return otherCycles(c.Kind, c.Mode)
}

// otherCycles are those of the kinds of which the mode tells no more than the
// kind, but for a jump.
func otherCycles(kind Kind, mode Mode) int {
	switch kind {
	case KBranch:
		return 2
	case KPush:
		return 3
	case KPull:
		return 4
	case KJump:
		if mode == Ind {
			return 5
		}
		return 3
	case KCall, KBack, KReturn:
		return 6
	case KBreak:
		return 7
	}
	return 0 // KJam: it never ends
}
