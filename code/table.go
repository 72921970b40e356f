package code

const (
	rowCells  = 16 // codes of a row
	cellBytes = 8  // from one cell to the next
	nameBytes = 3
	modeAt    = 4 // within a cell
	modeBytes = 3
)

// modes are as the rows name them, each at its number.
var modes = [13]string{"imp", "acc", "imm", "zp ", "zpx", "zpy", "abs", "abx", "aby", "izx", "izy", "rel", "ind"}

// cell is what the rows say of a code: its name, a blank, its mode.
type cell string

func (c cell) name() string { return string(c[:nameBytes]) }

func (c cell) mode() Mode {
	text := string(c[modeAt:])
	for mode, known := range modes {
		if text == known {
			return Mode(mode)
		}
	}
	return Imp
}

// cells ranges over the codes, from 0 on.
func cells(yield func(op uint8, c cell) bool) {
	for i, row := range rows() {
		for column := range rowCells {
			if !yield(uint8(i*rowCells+column), cellAt(row, column)) {
				return
			}
		}
	}
}

func cellOf(op uint8) cell {
	return cellAt(rows()[op/rowCells], int(op%rowCells))
}

func cellAt(row string, column int) cell {
	at := column * cellBytes
	return cell(row[at : at+modeAt+modeBytes])
}

// rows are the codes, as the chapter tells them. They stand in a function,
// being too great a table for the package's level.
func rows() [256 / rowCells]string {
	return [256 / rowCells]string{
		"BRK imp ORA izx JAM imp SLO izx NOP zp  ORA zp  ASL zp  SLO zp  PHP imp ORA imm ASL acc ANC imm NOP abs ORA abs ASL abs SLO abs",
		"BPL rel ORA izy JAM imp SLO izy NOP zpx ORA zpx ASL zpx SLO zpx CLC imp ORA aby NOP imp SLO aby NOP abx ORA abx ASL abx SLO abx",
		"JSR abs AND izx JAM imp RLA izx BIT zp  AND zp  ROL zp  RLA zp  PLP imp AND imm ROL acc ANC imm BIT abs AND abs ROL abs RLA abs",
		"BMI rel AND izy JAM imp RLA izy NOP zpx AND zpx ROL zpx RLA zpx SEC imp AND aby NOP imp RLA aby NOP abx AND abx ROL abx RLA abx",
		"RTI imp EOR izx JAM imp SRE izx NOP zp  EOR zp  LSR zp  SRE zp  PHA imp EOR imm LSR acc ALR imm JMP abs EOR abs LSR abs SRE abs",
		"BVC rel EOR izy JAM imp SRE izy NOP zpx EOR zpx LSR zpx SRE zpx CLI imp EOR aby NOP imp SRE aby NOP abx EOR abx LSR abx SRE abx",
		"RTS imp ADC izx JAM imp RRA izx NOP zp  ADC zp  ROR zp  RRA zp  PLA imp ADC imm ROR acc ARR imm JMP ind ADC abs ROR abs RRA abs",
		"BVS rel ADC izy JAM imp RRA izy NOP zpx ADC zpx ROR zpx RRA zpx SEI imp ADC aby NOP imp RRA aby NOP abx ADC abx ROR abx RRA abx",
		"NOP imm STA izx NOP imm SAX izx STY zp  STA zp  STX zp  SAX zp  DEY imp NOP imm TXA imp ANE imm STY abs STA abs STX abs SAX abs",
		"BCC rel STA izy JAM imp SHA izy STY zpx STA zpx STX zpy SAX zpy TYA imp STA aby TXS imp TAS aby SHY abx STA abx SHX aby SHA aby",
		"LDY imm LDA izx LDX imm LAX izx LDY zp  LDA zp  LDX zp  LAX zp  TAY imp LDA imm TAX imp LXA imm LDY abs LDA abs LDX abs LAX abs",
		"BCS rel LDA izy JAM imp LAX izy LDY zpx LDA zpx LDX zpy LAX zpy CLV imp LDA aby TSX imp LAS aby LDY abx LDA abx LDX aby LAX aby",
		"CPY imm CMP izx NOP imm DCP izx CPY zp  CMP zp  DEC zp  DCP zp  INY imp CMP imm DEX imp SBX imm CPY abs CMP abs DEC abs DCP abs",
		"BNE rel CMP izy JAM imp DCP izy NOP zpx CMP zpx DEC zpx DCP zpx CLD imp CMP aby NOP imp DCP aby NOP abx CMP abx DEC abx DCP abx",
		"CPX imm SBC izx NOP imm ISC izx CPX zp  SBC zp  INC zp  ISC zp  INX imp SBC imm NOP imp SBC imm CPX abs SBC abs INC abs ISC abs",
		"BEQ rel SBC izy JAM imp ISC izy NOP zpx SBC zpx INC zpx ISC zpx SED imp SBC aby NOP imp ISC aby NOP abx SBC abx INC abx ISC abx",
	}
}
