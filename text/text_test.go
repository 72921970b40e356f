package text_test

import (
	"slices"
	"strings"
	"testing"

	"woodgrain/text"
)

// Every mode's form, with a code and its bytes written out.
func TestShowTellsEachModesForm(t *testing.T) {
	for _, x := range []struct {
		op, a, b uint8
		at       uint16
		want     string
	}{
		{0x60, 0, 0, 0, "RTS"},
		{0x00, 0x12, 0x34, 0, "BRK"},
		{0xEA, 0x12, 0x34, 0xFFFF, "NOP"},
		{0x02, 1, 2, 0, "JAM"},
		{0x0A, 9, 9, 0, "ASL A"},
		{0x6A, 0, 0, 0, "ROR A"},
		{0xA9, 5, 0x77, 0, "LDA #$05"},
		{0xEB, 0xFE, 0, 0, "SBC #$FE"},
		{0x85, 0x0F, 0x77, 0, "STA $0F"},
		{0x44, 0x05, 0, 0, "NOP $05"},
		{0xB4, 0xA0, 0x77, 0, "LDY $A0,X"},
		{0x96, 5, 0x77, 0, "STX $05,Y"},
		{0x8D, 0x34, 0x12, 0, "STA $1234"},
		{0x20, 0x00, 0xF0, 0, "JSR $F000"},
		{0x4C, 0xCD, 0xAB, 0, "JMP $ABCD"},
		{0xBD, 0x34, 0x12, 0, "LDA $1234,X"},
		{0x99, 0xFF, 0x00, 0, "STA $00FF,Y"},
		{0xA1, 0x10, 0x77, 0, "LDA ($10,X)"},
		{0xB1, 0x10, 0x77, 0, "LDA ($10),Y"},
		{0x6C, 0x34, 0x12, 0, "JMP ($1234)"},
		{0xD0, 0xFE, 0x77, 0xF010, "BNE $F010"},
	} {
		if got := text.Show(x.op, x.a, x.b, x.at); got != x.want {
			t.Errorf("P13.1: Show(%02X, %02X, %02X, %04X): %q, not %q", x.op, x.a, x.b, x.at, got, x.want)
		}
	}
}

// Where a branch goes: ahead, back, and round behind FFFF and ahead of 0.
func TestShowTellsWhereABranchGoes(t *testing.T) {
	for _, x := range []struct {
		a    uint8
		at   uint16
		want string
	}{
		{0, 0xF000, "BEQ $F002"},
		{0x7F, 0xF000, "BEQ $F081"},
		{0x80, 0xF000, "BEQ $EF82"},
		{0xFF, 0xF000, "BEQ $F001"},
		{0, 0xFFFD, "BEQ $FFFF"},
		{0, 0xFFFE, "BEQ $0000"},
		{0, 0xFFFF, "BEQ $0001"},
		{0x7F, 0xFFFF, "BEQ $0080"},
		{0xFD, 0, "BEQ $FFFF"},
		{0x80, 0, "BEQ $FF82"},
	} {
		if got := text.Show(0xF0, x.a, 0x55, x.at); got != x.want {
			t.Errorf("P13.1: a branch by %02X at %04X: %q, not %q", x.a, x.at, got, x.want)
		}
	}
}

func TestHexTellsTheLowestDigits(t *testing.T) {
	for _, x := range []struct {
		n, digits int
		want      string
	}{
		{0x1234, 2, "34"}, {0x1234, 1, "4"}, {0x1234, 4, "1234"}, {0x1234, 8, "00001234"},
		{0, 1, "0"}, {0, 8, "00000000"}, {0xABCDEF, 6, "ABCDEF"}, {0xABCDEF, 5, "BCDEF"},
		{0xFEDCBA98, 8, "FEDCBA98"}, {0x1FEDCBA98, 8, "FEDCBA98"}, {1<<62 + 5, 8, "00000005"},
		{0x1234, 0, ""}, {0x1234, 9, ""}, {0x1234, -1, ""}, {0x1234, 1 << 40, ""}, {0x1234, -1 << 63, ""},
		{-1, 4, "0000"}, {-1 << 63, 1, "0"}, {-0x1234, 8, "00000000"}, {-1, 0, ""}, {-1, 9, ""},
	} {
		if got := text.Hex(x.n, x.digits); got != x.want {
			t.Errorf("P13.1: Hex(%d, %d): %q, not %q", x.n, x.digits, got, x.want)
		}
	}
}

func TestBytesTellsThemBetweenCommas(t *testing.T) {
	for want, l := range map[string]string{
		".byte $01,$AB":     "\x01\xAB",
		".byte $00":         "\x00",
		".byte $FF,$00,$9A": "\xFF\x00\x9A",
	} {
		if got := text.Bytes([]byte(l)); got != want {
			t.Errorf("P13.2: Bytes(%x): %q, not %q", l, got, want)
		}
	}
	if got := text.Bytes(nil); got != "" {
		t.Errorf("P13.2: Bytes of none: %q", got)
	}
	if got := text.Bytes([]byte{}); got != "" {
		t.Errorf("P13.2: Bytes of an empty list: %q", got)
	}
}

func TestListTellsCodesAndBytes(t *testing.T) {
	for _, x := range []struct {
		why  string
		at   uint16
		l    string
		want string
	}{
		{"none", 0, "", ""},
		{"a plain NOP", 0, "\x04\x05", "NOP $05"},
		{"not plain", 0, "\x44\x05", ".byte $44|.byte $05"},
		{"not plain: what is behind it is looked at", 0, "\x44\xA9\x05", ".byte $44|LDA #$05"},
		{"EB is none, E9 is", 0, "\xEB\xE9\x01", ".byte $EB|SBC #$01"},
		{"1A is none, EA is", 0, "\x1A\xEA", ".byte $1A|NOP"},
		{"the first JAM is plain", 0, "\x02\x12", "JAM|.byte $12"},
		{"ANC: 0B is plain, 2B is not", 0, "\x0B\x01\x2B", "ANC #$01|.byte $2B"},
		{"NOP imm: 80 is plain, 82 is not", 0, "\x80\x01\x82", "NOP #$01|.byte $82"},
		{"cut short by one", 0, "\xA9", ".byte $A9"},
		{"cut short by two", 0, "\x4C", ".byte $4C"},
		{"cut short by one of two: the last is looked at by itself", 0, "\x4C\x60", ".byte $4C|RTS"},
		{"whole at the end", 0, "\x4C\x00\xF0", "JMP $F000"},
		{"addresses go on", 0xF000, "\xEA\xD0\xFD\x4C\x00\xF0\xF0\x00", "NOP|BNE $F000|JMP $F000|BEQ $F008"},
		{"bytes have addresses, too", 0xF000, "\x44\x44\xD0\xFC", ".byte $44|.byte $44|BNE $F000"},
		{"round behind FFFF", 0xFFFF, "\xEA\xD0\x00\xD0\xFB", "NOP|BNE $0002|BNE $FFFF"},
		{"a code over FFFF", 0xFFFF, "\xD0\x01", "BNE $0002"},
	} {
		got := text.List(x.at, []byte(x.l))
		if strings.Join(got, "|") != x.want {
			t.Errorf("P13.2: %s: List(%04X, %x): %q, not %q", x.why, x.at, x.l, got, x.want)
		}
	}
	if got := text.List(7, nil); len(got) != 0 {
		t.Errorf("P13.2: List of none: %q", got)
	}
}

// flowed tells which bytes Flow reaches, as a row of signs.
func flowed(at uint16, l string, entries ...uint16) string {
	row := make([]byte, 0, len(l))
	for _, reached := range text.Flow(at, []byte(l), entries) {
		if reached {
			row = append(row, '+')
		} else {
			row = append(row, '-')
		}
	}
	return string(row)
}

func TestFlowFollowsCodes(t *testing.T) {
	for _, x := range []struct {
		why     string
		at      uint16
		l       string
		entries []uint16
		want    string
	}{
		{"no entries", 0, "\xEA\xEA", nil, "--"},
		{"no bytes", 0, "", []uint16{0}, ""},
		{"from the beginning", 0x1000, "\xEA\xA9\x01\xEA", []uint16{0x1000}, "++++"},
		{"from within", 0x1000, "\xEA\xA9\xEA\xEA", []uint16{0x1002}, "--++"},
		{"ahead of the bytes", 0x1000, "\xEA\xEA", []uint16{0xFFF, 0}, "--"},
		{"behind the bytes", 0x1000, "\xEA\xEA", []uint16{0x1002, 0xFFFF}, "--"},
		{"an entry twice", 0x1000, "\xEA\x60\xEA", []uint16{0x1000, 0x1000}, "++-"},
		{"two entries", 0x1000, "\x60\xEA\x60\xEA", []uint16{0x1002, 0x1000}, "+-+-"},
		{"JMP goes on there alone", 0x1000, "\x4C\x05\x10\xEA\xEA\x60", []uint16{0x1000}, "+++--+"},
		{"JMP back", 0x1000, "\xEA\x4C\x00\x10\xEA", []uint16{0x1001}, "++++-"},
		{"JMP out of the bytes", 0x1000, "\x4C\x00\x20\xEA", []uint16{0x1000}, "+++-"},
		{"JMP ahead of the bytes", 0x1000, "\x4C\xFF\x0F\xEA", []uint16{0x1000}, "+++-"},
		{"JSR goes both ways", 0x1000, "\x20\x06\x10\xEA\x60\xEA\x60", []uint16{0x1000}, "+++++-+"},
		{"a branch goes both ways", 0x1000, "\xD0\x02\xEA\x60\xEA\x60\xEA", []uint16{0x1000}, "++++++-"},
		{"a branch back", 0x1000, "\xEA\x60\xD0\xFC\x60\xEA", []uint16{0x1002}, "+++++-"},
		{"JMP ind ends", 0x1000, "\x6C\x03\x10\xEA", []uint16{0x1000}, "+++-"},
		{"RTS ends", 0x1000, "\x60\xEA", []uint16{0x1000}, "+-"},
		{"RTI ends", 0x1000, "\x40\xEA", []uint16{0x1000}, "+-"},
		{"BRK ends, without the byte behind it", 0x1000, "\x00\xEA\xEA", []uint16{0x1000}, "+--"},
		{"JAM ends", 0x1000, "\x02\xEA", []uint16{0x1000}, "+-"},
		{"another JAM ends", 0x1000, "\xF2\xEA", []uint16{0x1000}, "+-"},
		{"codes that are not plain are codes", 0x1000, "\x44\x60\x1A\x60\xEA", []uint16{0x1000}, "++++-"},
		{"stores, pushes, pulls and turns go on", 0x1000, "\x85\x80\x48\x68\xE6\x80\x60\xEA", []uint16{0x1000}, "+++++++-"},
		{"a code that is cut short is none", 0x1000, "\xEA\x4C\x00", []uint16{0x1000}, "+--"},
		{"an entry at a code that is cut short", 0x1000, "\xEA\xA9", []uint16{0x1001}, "--"},
		{"a jump to a code that is cut short", 0x1000, "\x4C\x03\x10\xA9", []uint16{0x1000}, "+++-"},
		{"codes that overlap", 0x1000, "\x2C\xA9\x01\x60\xEA", []uint16{0x1000, 0x1001}, "++++-"},
		{"a branch into a code", 0x1000, "\xD0\x01\xA9\x60\x60\xEA", []uint16{0x1000}, "+++++-"},
		{"up to FFFF", 0xFFFE, "\xEA\x60\xEA", []uint16{0xFFFE}, "++-"},
		{"bytes beyond FFFF are never reached", 0xFFFE, "\xEA\xEA\xEA\xEA", []uint16{0xFFFE, 0, 1}, "++--"},
		{"two bytes at FFFF are not whole", 0xFFFE, "\xEA\xA9\x01\xEA", []uint16{0xFFFE, 0xFFFF}, "+---"},
		{"three bytes at FFFE are not whole", 0xFFFE, "\x4C\xFE\xFF\xEA", []uint16{0xFFFE}, "----"},
		{"three bytes at FFFD are", 0xFFFD, "\x4C\xFD\xFF\xEA", []uint16{0xFFFD}, "+++-"},
	} {
		if got := flowed(x.at, x.l, x.entries...); got != x.want {
			t.Errorf("P13.3: %s: Flow(%04X, %x, %04X): %s, not %s", x.why, x.at, x.l, x.entries, got, x.want)
		}
	}
}

// Addresses go round: of all 2^16 bytes a branch at 0 reaches the last ones,
// and what stands behind FFFF is 0.
func TestFlowGoesRound(t *testing.T) {
	l := slices.Repeat([]byte{0x60}, 1<<16+2)
	copy(l, "\xD0\xF0")
	if got := text.Flow(0, l, []uint16{0}); !got[0] || !got[2] || !got[0xFFF2] || got[0xFFF1] {
		t.Error("P13.3: a branch at 0 by -16 goes to FFF2")
	}
	l[0xFFFF] = 0xEA
	got := text.Flow(0, l, []uint16{0xFFFF})
	if !got[0xFFFF] || !got[0] {
		t.Error("P13.3: behind FFFF stands 0")
	}
	if got[1<<16] || got[1<<16+1] || len(got) != len(l) {
		t.Error("P13.3: bytes beyond FFFF are never reached")
	}
	copy(l[0xFFFD:], "\xEA\xD0\x02")
	if got := text.Flow(0, l, []uint16{0xFFFD}); !got[0] || !got[2] || got[3] {
		t.Error("P13.3: a branch at FFFE by 2 goes to 2")
	}
}
