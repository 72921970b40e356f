package exec

import (
	"woodgrain/alu"
	"woodgrain/api"
)

// work is what is being done to the registers.
type work struct{ api.Regs }

func (w *work) mark(v uint8) { w.P = alu.Mark(w.P, v) }

// put: P is marked by what is put.
func (w *work) put(where *uint8, v uint8) {
	*where = v
	w.mark(v)
}

func (w *work) flag(flag uint8, is bool) {
	w.P &^= flag
	if is {
		w.P |= flag
	}
}

func (w *work) self(name string) {
	switch name {
	case "CLC":
		w.flag(api.FlagC, false)
	case "CLD":
		w.flag(api.FlagD, false)
	case "CLI":
		w.flag(api.FlagI, false)
	case "CLV":
		w.flag(api.FlagV, false)
	case "SEC":
		w.flag(api.FlagC, true)
	case "SED":
		w.flag(api.FlagD, true)
	case "SEI":
		w.flag(api.FlagI, true)
	case "TAX":
		w.put(&w.X, w.A)
	case "TAY":
		w.put(&w.Y, w.A)
	case "TXA":
		w.put(&w.A, w.X)
	case "TYA":
		w.put(&w.A, w.Y)
	case "TSX":
		w.put(&w.X, w.S)
	case "TXS":
		w.S = w.X
	case "INX":
		w.put(&w.X, w.X+1)
	case "INY":
		w.put(&w.Y, w.Y+1)
	case "DEX":
		w.put(&w.X, w.X-1)
	case "DEY":
		w.put(&w.Y, w.Y-1)
	}
}

// store tells the byte that is written; h is what the unsure ones have their
// bits in common with.
func (w *work) store(name string, h uint8) uint8 {
	switch name {
	case "STA":
		return w.A
	case "STX":
		return w.X
	case "STY":
		return w.Y
	case "SAX":
		return w.A & w.X
	case "TAS":
		w.S = w.A & w.X
		fallthrough // S is what SHA makes of A and X
	case "SHA":
		return w.A & w.X & h
	case "SHX":
		return w.X & h
	case "SHY":
		return w.Y & h
	}
	return 0
}

// turn tells what m becomes.
func (w *work) turn(name string, m uint8) uint8 {
	switch name {
	case "ASL":
		m, w.P = alu.Left(m, w.P, false)
	case "ROL":
		m, w.P = alu.Left(m, w.P, true)
	case "LSR":
		m, w.P = alu.Right(m, w.P, false)
	case "ROR":
		m, w.P = alu.Right(m, w.P, true)
	case "INC":
		w.put(&m, m+1)
	case "DEC":
		w.put(&m, m-1)
	case "SLO":
		m = w.turnAndRead("ASL", "ORA", m)
	case "RLA":
		m = w.turnAndRead("ROL", "AND", m)
	case "SRE":
		m = w.turnAndRead("LSR", "EOR", m)
	case "RRA":
		m = w.turnAndRead("ROR", "ADC", m)
	case "DCP":
		m = w.turnAndRead("DEC", "CMP", m)
	case "ISC":
		m = w.turnAndRead("INC", "SBC", m)
	}
	return m
}

// turnAndRead does two codes in one: the second reads what the first has
// turned, with the flags that it has left.
func (w *work) turnAndRead(first, second string, m uint8) uint8 {
	m = w.turn(first, m)
	w.read(second, m)
	return m
}
