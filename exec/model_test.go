package exec_test

import (
	"woodgrain/alu"
	"woodgrain/api"
	"woodgrain/code"
)

// The models are the chapter's words, a name a line; sums, shifts and
// comparisons are those of layer 9, as the chapter says.

func marked(r api.Regs, v uint8) api.Regs {
	r.P = alu.Mark(r.P, v)
	return r
}

func inA(r api.Regs, v, p uint8) api.Regs {
	r.A, r.P = v, p
	return r
}

func compared(r api.Regs, v, m uint8) api.Regs {
	r.P = alu.Compare(v, m, r.P)
	return r
}

// reads are what each KRead does.
var reads = map[string]func(r api.Regs, m uint8) api.Regs{
	"ORA": func(r api.Regs, m uint8) api.Regs { return inA(r, r.A|m, alu.Mark(r.P, r.A|m)) },
	"AND": func(r api.Regs, m uint8) api.Regs { return inA(r, r.A&m, alu.Mark(r.P, r.A&m)) },
	"EOR": func(r api.Regs, m uint8) api.Regs { return inA(r, r.A^m, alu.Mark(r.P, r.A^m)) },
	"ADC": func(r api.Regs, m uint8) api.Regs {
		v, q := alu.Add(r.A, m, r.P)
		return inA(r, v, q)
	},
	"SBC": func(r api.Regs, m uint8) api.Regs {
		v, q := alu.Sub(r.A, m, r.P)
		return inA(r, v, q)
	},
	"CMP": func(r api.Regs, m uint8) api.Regs { return compared(r, r.A, m) },
	"CPX": func(r api.Regs, m uint8) api.Regs { return compared(r, r.X, m) },
	"CPY": func(r api.Regs, m uint8) api.Regs { return compared(r, r.Y, m) },
	"BIT": func(r api.Regs, m uint8) api.Regs { return inA(r, r.A, alu.Bit(r.A, m, r.P)) },
	"LDA": func(r api.Regs, m uint8) api.Regs { r.A = m; return marked(r, m) },
	"LDX": func(r api.Regs, m uint8) api.Regs { r.X = m; return marked(r, m) },
	"LDY": func(r api.Regs, m uint8) api.Regs { r.Y = m; return marked(r, m) },
	"LAX": func(r api.Regs, m uint8) api.Regs { r.A, r.X = m, m; return marked(r, m) },
	"LAS": func(r api.Regs, m uint8) api.Regs {
		t := m & r.S
		r.A, r.X, r.S = t, t, t
		return marked(r, t)
	},
	"NOP": func(r api.Regs, m uint8) api.Regs { return r },
	"ANC": func(r api.Regs, m uint8) api.Regs {
		r = marked(r, r.A&m)
		r.A &= m
		r.P = r.P&^1 | r.A>>7
		return r
	},
	"ALR": func(r api.Regs, m uint8) api.Regs {
		v, q := alu.Right(r.A&m, r.P, false)
		return inA(r, v, q)
	},
	"ARR": func(r api.Regs, m uint8) api.Regs {
		v, q := alu.Odd(r.A, m, r.P)
		return inA(r, v, q)
	},
	"ANE": func(r api.Regs, m uint8) api.Regs {
		r.A = (r.A | 0xEE) & r.X & m
		return marked(r, r.A)
	},
	"LXA": func(r api.Regs, m uint8) api.Regs {
		t := (r.A | 0xEE) & m
		r.A, r.X = t, t
		return marked(r, t)
	},
	"SBX": func(r api.Regs, m uint8) api.Regs {
		t := r.A & r.X
		r = compared(r, t, m)
		r.X = t - m
		return r
	},
}

// selves are what each KSelf does.
var selves = map[string]func(r api.Regs) api.Regs{
	"CLC": func(r api.Regs) api.Regs { r.P &= 0xFE; return r },
	"CLD": func(r api.Regs) api.Regs { r.P &= 0xF7; return r },
	"CLI": func(r api.Regs) api.Regs { r.P &= 0xFB; return r },
	"CLV": func(r api.Regs) api.Regs { r.P &= 0xBF; return r },
	"SEC": func(r api.Regs) api.Regs { r.P |= 0x01; return r },
	"SED": func(r api.Regs) api.Regs { r.P |= 0x08; return r },
	"SEI": func(r api.Regs) api.Regs { r.P |= 0x04; return r },
	"TAX": func(r api.Regs) api.Regs { r.X = r.A; return marked(r, r.A) },
	"TAY": func(r api.Regs) api.Regs { r.Y = r.A; return marked(r, r.A) },
	"TXA": func(r api.Regs) api.Regs { r.A = r.X; return marked(r, r.X) },
	"TYA": func(r api.Regs) api.Regs { r.A = r.Y; return marked(r, r.Y) },
	"TSX": func(r api.Regs) api.Regs { r.X = r.S; return marked(r, r.S) },
	"TXS": func(r api.Regs) api.Regs { r.S = r.X; return r },
	"INX": func(r api.Regs) api.Regs { r.X++; return marked(r, r.X) },
	"INY": func(r api.Regs) api.Regs { r.Y++; return marked(r, r.Y) },
	"DEX": func(r api.Regs) api.Regs { r.X--; return marked(r, r.X) },
	"DEY": func(r api.Regs) api.Regs { r.Y--; return marked(r, r.Y) },
	"NOP": func(r api.Regs) api.Regs { return r },
}

// stores are what each KStore writes, and does.
var stores = map[string]func(r api.Regs, base int) (uint8, api.Regs){
	"STA": func(r api.Regs, base int) (uint8, api.Regs) { return r.A, r },
	"STX": func(r api.Regs, base int) (uint8, api.Regs) { return r.X, r },
	"STY": func(r api.Regs, base int) (uint8, api.Regs) { return r.Y, r },
	"SAX": func(r api.Regs, base int) (uint8, api.Regs) { return r.A & r.X, r },
	"SHA": func(r api.Regs, base int) (uint8, api.Regs) { return r.A & r.X & oneMore(base), r },
	"SHX": func(r api.Regs, base int) (uint8, api.Regs) { return r.X & oneMore(base), r },
	"SHY": func(r api.Regs, base int) (uint8, api.Regs) { return r.Y & oneMore(base), r },
	"TAS": func(r api.Regs, base int) (uint8, api.Regs) {
		r.S = r.A & r.X
		return r.S & oneMore(base), r
	},
}

func oneMore(base int) uint8 { return uint8((base + 1) % 256) }

// turns are what each KTurn makes of a byte, and does.
var turns = map[string]func(r api.Regs, m uint8) (uint8, api.Regs){
	"ASL": func(r api.Regs, m uint8) (uint8, api.Regs) { return shifted(alu.Left, r, m, false) },
	"ROL": func(r api.Regs, m uint8) (uint8, api.Regs) { return shifted(alu.Left, r, m, true) },
	"LSR": func(r api.Regs, m uint8) (uint8, api.Regs) { return shifted(alu.Right, r, m, false) },
	"ROR": func(r api.Regs, m uint8) (uint8, api.Regs) { return shifted(alu.Right, r, m, true) },
	"INC": func(r api.Regs, m uint8) (uint8, api.Regs) { return m + 1, marked(r, m+1) },
	"DEC": func(r api.Regs, m uint8) (uint8, api.Regs) { return m - 1, marked(r, m-1) },
	"SLO": func(r api.Regs, m uint8) (uint8, api.Regs) {
		v, r := shifted(alu.Left, r, m, false)
		return v, reads["ORA"](r, v)
	},
	"RLA": func(r api.Regs, m uint8) (uint8, api.Regs) {
		v, r := shifted(alu.Left, r, m, true)
		return v, reads["AND"](r, v)
	},
	"SRE": func(r api.Regs, m uint8) (uint8, api.Regs) {
		v, r := shifted(alu.Right, r, m, false)
		return v, reads["EOR"](r, v)
	},
	"RRA": func(r api.Regs, m uint8) (uint8, api.Regs) {
		v, r := shifted(alu.Right, r, m, true)
		return v, reads["ADC"](r, v)
	},
	"DCP": func(r api.Regs, m uint8) (uint8, api.Regs) { return m - 1, reads["CMP"](r, m-1) },
	"ISC": func(r api.Regs, m uint8) (uint8, api.Regs) { return m + 1, reads["SBC"](r, m+1) },
}

func shifted(shift func(m, p uint8, turn bool) (v, q uint8), r api.Regs, m uint8, turn bool) (uint8, api.Regs) {
	v, q := shift(m, r.P, turn)
	r.P = q
	return v, r
}

// branches are the flag that each KBranch asks for, and how it is to be.
var branches = map[string]struct {
	flag uint8
	set  bool
}{
	"BPL": {128, false}, "BMI": {128, true},
	"BVC": {64, false}, "BVS": {64, true},
	"BCC": {1, false}, "BCS": {1, true},
	"BNE": {2, false}, "BEQ": {2, true},
}

// namesOf are the names that codes of a kind have.
func namesOf(kind code.Kind) map[string]bool {
	names := map[string]bool{}
	for op := range 256 {
		if c := code.Of(uint8(op)); c.Kind == kind {
			names[c.Name] = true
		}
	}
	return names
}
