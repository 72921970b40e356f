package field

// Colours.
const (
	player0 = iota
	player1
	playing // the field's
	ground
)

// have are the dots that have a colour.
var have = [...][2]int{player0: {P0, M0}, player1: {P1, M1}, playing: {BL, PF}}

// Seen tells which colour is seen.
func Seen(dots [6]bool, control uint8, x int) int {
	colour := first(control, func(colour int) bool {
		pair := have[colour]
		return dots[pair[0]] || dots[pair[1]]
	})
	if colour == playing && !dots[BL] && control&(score|above) == score {
		return owner(x)
	}
	return colour
}

// first is the colour that lies above the others of those that are there.
func first(control uint8, there func(colour int) bool) int {
	order := [...]int{player0, player1, playing}
	if control&above != 0 {
		order = [...]int{playing, player0, player1}
	}
	for _, colour := range order {
		if there(colour) {
			return colour
		}
	}
	return ground
}

// owner is the player whose half of the line it is.
func owner(x int) int {
	if x < half {
		return player0
	}
	return player1
}
