package exec

import (
	"woodgrain/alu"
	"woodgrain/api"
)

const (
	bit7 = 1 << 7
	// found are the bits that ANE and LXA find in A, whatever it is.
	found = 0xEE
)

func (w *work) read(name string, m uint8) {
	switch name {
	case "ORA":
		w.put(&w.A, w.A|m)
	case "AND":
		w.put(&w.A, w.A&m)
	case "EOR":
		w.put(&w.A, w.A^m)
	case "ADC":
		w.A, w.P = alu.Add(w.A, m, w.P)
	case "SBC":
		w.A, w.P = alu.Sub(w.A, m, w.P)
	case "CMP":
		w.P = alu.Compare(w.A, m, w.P)
	case "CPX":
		w.P = alu.Compare(w.X, m, w.P)
	case "CPY":
		w.P = alu.Compare(w.Y, m, w.P)
	case "BIT":
		w.P = alu.Bit(w.A, m, w.P)
	case "LDX":
		w.put(&w.X, m)
	case "LDY":
		w.put(&w.Y, m)
	case "LAS":
		m &= w.S
		w.S = m
		fallthrough
	case "LAX":
		w.X = m
		fallthrough
	case "LDA":
		w.put(&w.A, m)
	default:
		w.readTwice(name, m)
	}
}

// readTwice does those that no manual tells of: each does two codes at once.
func (w *work) readTwice(name string, m uint8) {
	switch name {
	case "ANC":
		w.put(&w.A, w.A&m)
		w.flag(api.FlagC, w.A&bit7 != 0)
	case "ALR":
		w.A, w.P = alu.Right(w.A&m, w.P, false)
	case "ARR":
		w.A, w.P = alu.Odd(w.A, m, w.P)
	case "ANE":
		w.put(&w.A, (w.A|found)&w.X&m)
	case "LXA":
		w.read("LAX", (w.A|found)&m)
	case "SBX":
		t := w.A & w.X
		w.P = alu.Compare(t, m, w.P)
		w.X = t - m
	}
}
