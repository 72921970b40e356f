package motion

import "woodgrain/api"

const (
	lower = 1<<4 - 1 // what counts of a nibble
	sign  = 1 << 3
)

// Shift tells by how much a strobe moves a thing.
func Shift(strobe int, nibble uint8) int {
	if !within(strobe, api.Clocks-1) {
		return 0
	}
	dark, lost := api.Dark, 0
	if strobe >= 1 && strobe < api.Late {
		dark, lost = api.Late, min(api.Late-strobe, api.Late-api.Dark)
	}
	n := 0
	for k := range moves(nibble) {
		if (firstMove(strobe)+apart*k)%api.Clocks < dark {
			n++
		}
	}
	return n - lost
}

// moves tells how often a nibble moves its thing.
func moves(nibble uint8) int { return int(nibble&lower ^ sign) }

// firstMove is the clock of the first move behind a strobe; it may be one
// behind the line's end.
func firstMove(strobe int) int { return (strobe + wait + apart - 1) / apart * apart }
