package code_test

import (
	"strings"
	"testing"

	"woodgrain/code"
)

// chapter is the codes as the chapter writes them.
const chapter = `
00: BRK imp, ORA izx, JAM imp, SLO izx, NOP zp, ORA zp, ASL zp, SLO zp, PHP imp, ORA imm, ASL acc, ANC imm, NOP abs, ORA abs, ASL abs, SLO abs
10: BPL rel, ORA izy, JAM imp, SLO izy, NOP zpx, ORA zpx, ASL zpx, SLO zpx, CLC imp, ORA aby, NOP imp, SLO aby, NOP abx, ORA abx, ASL abx, SLO abx
20: JSR abs, AND izx, JAM imp, RLA izx, BIT zp, AND zp, ROL zp, RLA zp, PLP imp, AND imm, ROL acc, ANC imm, BIT abs, AND abs, ROL abs, RLA abs
30: BMI rel, AND izy, JAM imp, RLA izy, NOP zpx, AND zpx, ROL zpx, RLA zpx, SEC imp, AND aby, NOP imp, RLA aby, NOP abx, AND abx, ROL abx, RLA abx
40: RTI imp, EOR izx, JAM imp, SRE izx, NOP zp, EOR zp, LSR zp, SRE zp, PHA imp, EOR imm, LSR acc, ALR imm, JMP abs, EOR abs, LSR abs, SRE abs
50: BVC rel, EOR izy, JAM imp, SRE izy, NOP zpx, EOR zpx, LSR zpx, SRE zpx, CLI imp, EOR aby, NOP imp, SRE aby, NOP abx, EOR abx, LSR abx, SRE abx
60: RTS imp, ADC izx, JAM imp, RRA izx, NOP zp, ADC zp, ROR zp, RRA zp, PLA imp, ADC imm, ROR acc, ARR imm, JMP ind, ADC abs, ROR abs, RRA abs
70: BVS rel, ADC izy, JAM imp, RRA izy, NOP zpx, ADC zpx, ROR zpx, RRA zpx, SEI imp, ADC aby, NOP imp, RRA aby, NOP abx, ADC abx, ROR abx, RRA abx
80: NOP imm, STA izx, NOP imm, SAX izx, STY zp, STA zp, STX zp, SAX zp, DEY imp, NOP imm, TXA imp, ANE imm, STY abs, STA abs, STX abs, SAX abs
90: BCC rel, STA izy, JAM imp, SHA izy, STY zpx, STA zpx, STX zpy, SAX zpy, TYA imp, STA aby, TXS imp, TAS aby, SHY abx, STA abx, SHX aby, SHA aby
A0: LDY imm, LDA izx, LDX imm, LAX izx, LDY zp, LDA zp, LDX zp, LAX zp, TAY imp, LDA imm, TAX imp, LXA imm, LDY abs, LDA abs, LDX abs, LAX abs
B0: BCS rel, LDA izy, JAM imp, LAX izy, LDY zpx, LDA zpx, LDX zpy, LAX zpy, CLV imp, LDA aby, TSX imp, LAS aby, LDY abx, LDA abx, LDX aby, LAX aby
C0: CPY imm, CMP izx, NOP imm, DCP izx, CPY zp, CMP zp, DEC zp, DCP zp, INY imp, CMP imm, DEX imp, SBX imm, CPY abs, CMP abs, DEC abs, DCP abs
D0: BNE rel, CMP izy, JAM imp, DCP izy, NOP zpx, CMP zpx, DEC zpx, DCP zpx, CLD imp, CMP aby, NOP imp, DCP aby, NOP abx, CMP abx, DEC abx, DCP abx
E0: CPX imm, SBC izx, NOP imm, ISC izx, CPX zp, SBC zp, INC zp, ISC zp, INX imp, SBC imm, NOP imp, SBC imm, CPX abs, SBC abs, INC abs, ISC abs
F0: BEQ rel, SBC izy, JAM imp, ISC izy, NOP zpx, SBC zpx, INC zpx, ISC zpx, SED imp, SBC aby, NOP imp, ISC aby, NOP abx, SBC abx, INC abx, ISC abx
`

// fewest is the cycles of each code, a row a line.
const fewest = `
7608335532224466
2508446624274477
6608335542224466
2508446624274477
6608335532223466
2508446624274477
6608335542225466
2508446624274477
2626333322224444
2606444425255555
2626333322224444
2505444424244444
2628335522224466
2508446624274477
2628335522224466
2508446624274477
`

// documented has a + for each code that is documented.
const documented = `
++---++-+++--++-
++---++-++---++-
++--+++-+++-+++-
++---++-++---++-
++---++-+++-+++-
++---++-++---++-
++---++-+++-+++-
++---++-++---++-
-+--+++-+-+-+++-
++--+++-+++--+--
+++-+++-+++-+++-
++--+++-+++-+++-
++--+++-+++-+++-
++---++-++---++-
++--+++-+++-+++-
++---++-++---++-
`

var modes = map[string]code.Mode{
	"imp": code.Imp, "acc": code.Acc, "imm": code.Imm, "zp": code.Zp, "zpx": code.Zpx, "zpy": code.Zpy,
	"abs": code.Abs, "abx": code.Abx, "aby": code.Aby, "izx": code.Izx, "izy": code.Izy, "rel": code.Rel, "ind": code.Ind,
}

// kinds are the kinds that the chapter tells names of.
var kinds = map[code.Kind]string{
	code.KTurn:   "ASL, LSR, ROL, ROR, INC, DEC, SLO, RLA, SRE, RRA, DCP, ISC",
	code.KStore:  "STA, STX, STY, SAX, SHA, SHX, SHY, TAS",
	code.KBranch: "BPL, BMI, BVC, BVS, BCC, BCS, BNE, BEQ",
	code.KPush:   "PHA, PHP",
	code.KPull:   "PLA, PLP",
	code.KJump:   "JMP",
	code.KCall:   "JSR",
	code.KBack:   "RTS",
	code.KReturn: "RTI",
	code.KBreak:  "BRK",
	code.KJam:    "JAM",
}

func kindOf(name string, mode code.Mode) code.Kind {
	for kind, names := range kinds {
		if strings.Contains(names, name) {
			return kind
		}
	}
	if mode == code.Imp {
		return code.KSelf
	}
	return code.KRead
}

// whole is all that is told of a code.
type whole struct {
	code.Code
	length, cycles int
}

// all are the codes as the chapter has them.
func all(t *testing.T) [256]whole {
	t.Helper()
	var l [256]whole
	lines := strings.Split(strings.TrimSpace(chapter), "\n")
	cycles := strings.ReplaceAll(fewest, "\n", "")
	known := strings.ReplaceAll(documented, "\n", "")
	if len(lines) != 16 || len(cycles) != 256 || len(known) != 256 {
		t.Fatal("the test's own table is not whole")
	}
	for i, line := range lines {
		_, cells, _ := strings.Cut(line, ": ")
		for j, cell := range strings.Split(cells, ", ") {
			op := 16*i + j
			name, mode, _ := strings.Cut(cell, " ")
			m, there := modes[mode]
			if !there {
				t.Fatalf("the test's own table has a mode %s", mode)
			}
			l[op] = whole{
				Code:   code.Code{Name: name, Mode: m, Kind: kindOf(name, m), Known: known[op] == '+'},
				length: lengthOf(mode), cycles: int(cycles[op] - '0'),
			}
		}
	}
	return l
}

func lengthOf(mode string) int {
	switch mode {
	case "imp", "acc":
		return 1
	case "abs", "abx", "aby", "ind":
		return 3
	}
	return 2
}
