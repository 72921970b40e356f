package riot

const ramBytes = 128

// memory is the RAM; of an address the lower 7 bits count.
type memory [ramBytes]uint8

func (m *memory) load(addr uint16) uint8 { return m[addr%ramBytes] }

func (m *memory) keep(addr uint16, v uint8) { m[addr%ramBytes] = v }

func (m *memory) appendBytes(w []int) []int {
	for _, b := range m {
		w = append(w, int(b))
	}
	return w
}

// setBytes takes ramBytes words; false, if one is no byte.
func (m *memory) setBytes(w []int) bool {
	for i, word := range w {
		b := uint8(word)
		if int(b) != word {
			return false
		}
		m[i] = b
	}
	return true
}
