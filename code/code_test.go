package code_test

import (
	"slices"
	"strings"
	"testing"

	"woodgrain/code"
)

func TestEachCode(t *testing.T) {
	for op, want := range all(t) {
		if c := code.Of(uint8(op)); c != want.Code {
			t.Errorf("P10.1: Of(%x): %v, not %v", op, c, want.Code)
		}
		if n := code.Length(uint8(op)); n != want.length {
			t.Errorf("P10.1: Length(%x): %d, not %d", op, n, want.length)
		}
		if n := code.Cycles(uint8(op)); n != want.cycles {
			t.Errorf("P10.1: Cycles(%x): %d, not %d", op, n, want.cycles)
		}
	}
}

func TestSomeCodes(t *testing.T) {
	for op, want := range map[uint8]whole{
		0xA9: {code.Code{Name: "LDA", Mode: code.Imm, Kind: code.KRead, Known: true}, 2, 2},
		0x02: {code.Code{Name: "JAM", Mode: code.Imp, Kind: code.KJam}, 1, 0},
		0x00: {code.Code{Name: "BRK", Mode: code.Imp, Kind: code.KBreak, Known: true}, 1, 7},
		0x0A: {code.Code{Name: "ASL", Mode: code.Acc, Kind: code.KTurn, Known: true}, 1, 2},
		0x10: {code.Code{Name: "BPL", Mode: code.Rel, Kind: code.KBranch, Known: true}, 2, 2},
		0x20: {code.Code{Name: "JSR", Mode: code.Abs, Kind: code.KCall, Known: true}, 3, 6},
		0x40: {code.Code{Name: "RTI", Mode: code.Imp, Kind: code.KReturn, Known: true}, 1, 6},
		0x48: {code.Code{Name: "PHA", Mode: code.Imp, Kind: code.KPush, Known: true}, 1, 3},
		0x4C: {code.Code{Name: "JMP", Mode: code.Abs, Kind: code.KJump, Known: true}, 3, 3},
		0x60: {code.Code{Name: "RTS", Mode: code.Imp, Kind: code.KBack, Known: true}, 1, 6},
		0x68: {code.Code{Name: "PLA", Mode: code.Imp, Kind: code.KPull, Known: true}, 1, 4},
		0x6C: {code.Code{Name: "JMP", Mode: code.Ind, Kind: code.KJump, Known: true}, 3, 5},
		0x80: {code.Code{Name: "NOP", Mode: code.Imm, Kind: code.KRead}, 2, 2},
		0x91: {code.Code{Name: "STA", Mode: code.Izy, Kind: code.KStore, Known: true}, 2, 6},
		0x96: {code.Code{Name: "STX", Mode: code.Zpy, Kind: code.KStore, Known: true}, 2, 4},
		0x9B: {code.Code{Name: "TAS", Mode: code.Aby, Kind: code.KStore}, 3, 5},
		0xBE: {code.Code{Name: "LDX", Mode: code.Aby, Kind: code.KRead, Known: true}, 3, 4},
		0xE9: {code.Code{Name: "SBC", Mode: code.Imm, Kind: code.KRead, Known: true}, 2, 2},
		0xEA: {code.Code{Name: "NOP", Mode: code.Imp, Kind: code.KSelf, Known: true}, 1, 2},
		0xEB: {code.Code{Name: "SBC", Mode: code.Imm, Kind: code.KRead}, 2, 2},
		0xE3: {code.Code{Name: "ISC", Mode: code.Izx, Kind: code.KTurn}, 2, 8},
		0xFA: {code.Code{Name: "NOP", Mode: code.Imp, Kind: code.KSelf}, 1, 2},
		0xFF: {code.Code{Name: "ISC", Mode: code.Abx, Kind: code.KTurn}, 3, 7},
	} {
		got := whole{code.Of(op), code.Length(op), code.Cycles(op)}
		if got != want {
			t.Errorf("P10.1: %x: %v, not %v", op, got, want)
		}
	}
}

// TestNumbers: modes and kinds count up from 0 in the chapter's order.
func TestNumbers(t *testing.T) {
	for i, mode := range []code.Mode{
		code.Imp, code.Acc, code.Imm, code.Zp, code.Zpx, code.Zpy, code.Abs, code.Abx, code.Aby,
		code.Izx, code.Izy, code.Rel, code.Ind,
	} {
		if int(mode) != i {
			t.Errorf("P10.1: mode %d is %d", i, mode)
		}
	}
	for i, kind := range []code.Kind{
		code.KSelf, code.KRead, code.KStore, code.KTurn, code.KBranch, code.KPush, code.KPull,
		code.KJump, code.KCall, code.KBack, code.KReturn, code.KBreak, code.KJam,
	} {
		if int(kind) != i {
			t.Errorf("P10.1: kind %d is %d", i, kind)
		}
	}
}

// found is what Find should tell.
func found(codes [256]whole, name string, mode code.Mode) (uint8, bool) {
	for _, known := range []bool{true, false} {
		for op, c := range codes {
			if c.Name == name && c.Mode == mode && c.Known == known {
				return uint8(op), true
			}
		}
	}
	return 0, false
}

// notNames are near to names, or far from them.
func notNames() []string {
	l := []string{
		"", " ", "L", "LD", "LDAA", "LDA ", " LDA", "LDA\x00", "LDA imm", "LDAimm", "DA ", "A i", "imp", "zp",
		"lda", "Lda", "LDa", "nop", "jam", "XXX", "AAA", "ZZZ", "KIL", "HLT", "SLO,", "BRA", "STZ", "ST", "***",
		"\xFF\xFF\xFF", "ŁDA", strings.Repeat("LDA", 1000),
	}
	for _, name := range code.Names() {
		l = append(l, strings.ToLower(name), name[:2], name+name, name[1:], name+"x")
	}
	return l
}

func TestFind(t *testing.T) {
	codes := all(t)
	for _, c := range codes {
		for mode := range 256 {
			wantOp, want := found(codes, c.Name, code.Mode(mode))
			if op, ok := code.Find(c.Name, code.Mode(mode)); op != wantOp || ok != want {
				t.Errorf("P10.2: Find(%s, %d): %x, %v, not %x, %v", c.Name, mode, op, ok, wantOp, want)
			}
		}
	}
}

// TestFindAmongSeveral: a name with a mode that it has in several codes.
func TestFindAmongSeveral(t *testing.T) {
	for _, x := range []struct {
		name string
		mode code.Mode
		want uint8
	}{
		{"NOP", code.Imp, 0xEA}, // 1A is less, but not documented
		{"SBC", code.Imm, 0xE9}, // not EB
		{"NOP", code.Zp, 0x04},
		{"NOP", code.Zpx, 0x14},
		{"NOP", code.Imm, 0x80},
		{"NOP", code.Abs, 0x0C},
		{"NOP", code.Abx, 0x1C},
		{"JAM", code.Imp, 0x02},
		{"ANC", code.Imm, 0x0B}, // not 2B
		{"BRK", code.Imp, 0x00}, // 0 that is found
		{"JMP", code.Ind, 0x6C},
		{"ISC", code.Abx, 0xFF},
	} {
		if op, ok := code.Find(x.name, x.mode); op != x.want || !ok {
			t.Errorf("P10.2: Find(%s, %d): %x, %v, not %x", x.name, x.mode, op, ok, x.want)
		}
	}
}

func TestFindNothing(t *testing.T) {
	for _, name := range notNames() {
		for mode := range 256 {
			if op, ok := code.Find(name, code.Mode(mode)); op != 0 || ok {
				t.Fatalf("P10.2: Find(%q, %d): %x, %v", name, mode, op, ok)
			}
		}
	}
	for _, x := range []struct {
		name string
		mode code.Mode
	}{
		{"STA", code.Imm}, {"LDA", code.Zpy}, {"LDX", code.Zpx}, {"JMP", code.Rel}, {"JSR", code.Ind}, {"BNE", code.Abs},
		{"ASL", code.Imp}, {"INC", code.Acc}, {"BRK", code.Imm}, {"BRK", 13}, {"LDA", 255}, {"NOP", 13},
	} {
		if op, ok := code.Find(x.name, x.mode); op != 0 || ok {
			t.Errorf("P10.2: Find(%s, %d): %x, %v", x.name, x.mode, op, ok)
		}
	}
}

// TestFindWhatOfTells: what is found is of that name and mode, and each
// documented code is found.
func TestFindWhatOfTells(t *testing.T) {
	for op := range 256 {
		c := code.Of(uint8(op))
		at, ok := code.Find(c.Name, c.Mode)
		if f := code.Of(at); !ok || f.Name != c.Name || f.Mode != c.Mode {
			t.Errorf("P10.2: Find(%s, %d): %x, %v", c.Name, c.Mode, at, ok)
		}
		if c.Known && int(at) != op {
			t.Errorf("P10.2: %x is documented, and %x is found", op, at)
		}
	}
}

func TestNames(t *testing.T) {
	want := strings.Fields(`ADC ALR ANC AND ANE ARR ASL BCC BCS BEQ BIT BMI BNE BPL BRK BVC BVS
		CLC CLD CLI CLV CMP CPX CPY DCP DEC DEX DEY EOR INC INX INY ISC JAM JMP JSR
		LAS LAX LDA LDX LDY LSR LXA NOP ORA PHA PHP PLA PLP RLA ROL ROR RRA RTI RTS
		SAX SBC SBX SEC SED SEI SHA SHX SHY SLO SRE STA STX STY TAS TAX TAY TSX TXA TXS TYA`)
	names := code.Names()
	if !slices.Equal(names, want) {
		t.Errorf("P10.2: Names: %v", names)
	}
	if len(names) != 76 || !slices.IsSorted(names) || len(slices.Compact(slices.Clone(names))) != 76 {
		t.Errorf("P10.2: %d names, or not each once in order", len(names))
	}
	for op, c := range all(t) {
		if _, there := slices.BinarySearch(names, c.Name); !there {
			t.Errorf("P10.2: the name of %x is not told", op)
		}
	}
	for i := range names {
		names[i] = "x"
	}
	_ = append(names, "y")
	if !slices.Equal(code.Names(), want) || code.Of(0xA9).Name != "LDA" {
		t.Error("R4: names that were handed out are kept")
	}
}

func TestHowMany(t *testing.T) {
	known, others, jams := 0, 0, 0
	for op := range 256 {
		c := code.Of(uint8(op))
		if c.Known {
			known++
			continue
		}
		others++
		if c.Name == "JAM" && c.Kind == code.KJam {
			jams++
		}
	}
	if known != 151 || others != 105 || jams != 12 {
		t.Errorf("P10.3: %d documented, %d others, %d JAM", known, others, jams)
	}
}

// TestAgain: what a call tells does not hang on the calls ahead of it.
func TestAgain(t *testing.T) {
	for op := range 256 {
		first := code.Of(uint8(op))
		code.Names()
		code.Find(first.Name, first.Mode)
		if code.Of(uint8(255-op)) != code.Of(uint8(255-op)) || code.Of(uint8(op)) != first {
			t.Errorf("R5: Of(%x) is another one later", op)
		}
	}
}
