package asm_test

import (
	"fmt"
	"math/rand"
	"slices"
	"strings"
	"testing"

	"woodgrain/api"
	"woodgrain/asm"
	"woodgrain/code"
	"woodgrain/text"
)

// good is a source, where its bytes begin, the bytes, and the names as "name=value".
type good struct {
	source string
	start  int
	bytes  string
	names  string
}

func checkGood(t *testing.T, x good) {
	t.Helper()
	p, line, e := asm.Build(x.source)
	if line != 0 || e != api.OK {
		t.Errorf("P14.1: %q: line %d, error %d", x.source, line, e)
		return
	}
	var names []string
	for _, n := range p.Names {
		names = append(names, fmt.Sprintf("%s=%d", n.Name, n.Value))
	}
	if p.Start != x.start || string(p.Bytes) != x.bytes || strings.Join(names, " ") != x.names {
		t.Errorf("P14.1: %q: %x from %x on, names %q", x.source, p.Bytes, p.Start, names)
	}
}

// bad is a source, and the error that counts.
type bad struct {
	source string
	line   int
	e      api.Errno
}

func checkBad(t *testing.T, x bad) {
	t.Helper()
	p, line, e := asm.Build(x.source)
	if line != x.line || e != x.e {
		t.Errorf("P14.1: %.80q: line %d, error %d, not line %d, error %d", x.source, line, e, x.line, x.e)
	}
	if p.Start != 0 || len(p.Bytes) != 0 || len(p.Names) != 0 {
		t.Errorf("P14.1: %.80q: an error, and beside it %v", x.source, p)
	}
}

func TestChaptersExamples(t *testing.T) {
	checkGood(t, good{".org $F000\nloop: LDA #$05\nBNE loop", 0xF000, "\xA9\x05\xD0\xFC", "loop=61440"})
	checkGood(t, good{"LDA x\nx = 5", 0, "\xAD\x05\x00", "x=5"})
	checkGood(t, good{"STA $100,Y", 0, "\x99\x00\x01", ""})
	checkGood(t, good{"STX 5,Y", 0, "\x96\x05", ""})
	checkBad(t, bad{"STX $100,Y", 1, api.ErrMode})
}

func TestOperandsOfEachForm(t *testing.T) {
	for _, x := range []good{
		{"RTS", 0, "\x60", ""},
		{"NOP", 0, "\xEA", ""},
		{"JAM", 0, "\x02", ""},
		{"ASL A", 0, "\x0A", ""},
		{"ASL\tA", 0, "\x0A", ""},
		{"LDA #$1E", 0, "\xA9\x1E", ""},
		{"SBC #1", 0, "\xE9\x01", ""},
		{"NOP #1", 0, "\x80\x01", ""},
		{"LDA ($10,X)", 0, "\xA1\x10", ""},
		{"LDA ($10),Y", 0, "\xB1\x10", ""},
		{"JMP ($1234)", 0, "\x6C\x34\x12", ""},
		{"JMP (5)", 0, "\x6C\x05\x00", ""},
		{"LDA $10,X", 0, "\xB5\x10", ""},
		{"LDA $010,X", 0, "\xBD\x10\x00", ""},
		{"LDX $10,Y", 0, "\xB6\x10", ""},
		{"LDX $0010,Y", 0, "\xBE\x10\x00", ""},
		{"LDA $10,Y", 0, "\xB9\x10\x00", ""},
		{"LDA $10", 0, "\xA5\x10", ""},
		{"LDA $100", 0, "\xAD\x00\x01", ""},
		{"JMP $10", 0, "\x4C\x10\x00", ""},
		{"JSR 5", 0, "\x20\x05\x00", ""},
		{"SHY 5,X", 0, "\x9C\x05\x00", ""},
		{"BEQ 5", 0, "\xF0\x03", ""},
		{"BEQ $0005", 0, "\xF0\x03", ""},
		{"LDA a", 0, "\xAD\x00\x00", "a=0"},
	} {
		if x.names != "" {
			x.source = "a: " + x.source
		}
		checkGood(t, x)
	}
	for _, x := range []bad{
		{"LDA", 1, api.ErrMode}, {"LDA A", 1, api.ErrMode}, {"RTS A", 1, api.ErrMode}, {"ASL", 1, api.ErrMode},
		{"STA #1", 1, api.ErrMode}, {"LDX (1,X)", 1, api.ErrMode}, {"LDX (1),Y", 1, api.ErrMode},
		{"LDA (1)", 1, api.ErrMode}, {"LDX 1,X", 1, api.ErrMode}, {"STX $100,X", 1, api.ErrMode},
		{"LDY 1,Y", 1, api.ErrMode}, {"RTS 1", 1, api.ErrMode}, {"STY $100,X", 1, api.ErrMode},
		{"BNE", 1, api.ErrMode}, {"BNE #1", 1, api.ErrMode}, {"BNE 1,X", 1, api.ErrMode}, {"BNE (1)", 1, api.ErrMode},
		{"LDA X", 1, api.ErrText}, {"LDA Y", 1, api.ErrText}, {"LDA #A", 1, api.ErrText}, {"LDA (A)", 1, api.ErrText},
		{"LDA #", 1, api.ErrText}, {"LDA (", 1, api.ErrText}, {"LDA )", 1, api.ErrText}, {"LDA ()", 1, api.ErrText},
		{"LDA (,X)", 1, api.ErrText}, {"LDA (),Y", 1, api.ErrText}, {"LDA ,X", 1, api.ErrText}, {"LDA ,Y", 1, api.ErrText},
		{"LDA (1),X", 1, api.ErrText}, {"LDA (1,Y)", 1, api.ErrText}, {"LDA (1),y", 1, api.ErrText}, {"LDA 1,x", 1, api.ErrText},
		{"LDA (1", 1, api.ErrText}, {"LDA 1)", 1, api.ErrText}, {"LDA #1,X", 1, api.ErrText}, {"LDA 1,X,X", 1, api.ErrText},
		{"LDA 1,A", 1, api.ErrText}, {"LDA 1,2", 1, api.ErrText}, {"LDA ((1))", 1, api.ErrText}, {"LDA (#1)", 1, api.ErrText},
	} {
		checkBad(t, x)
	}
}

func TestValues(t *testing.T) {
	long := strings.Repeat("n", api.MaxName)
	for _, x := range []good{
		{".byte $0,$9,$A,$f,$Ff,$00Ff", 0, "\x00\x09\x0A\x0F\xFF\xFF", ""},
		{".byte 0,1,9,10,255,00255,00000", 0, "\x00\x01\x09\x0A\xFF\xFF\x00", ""},
		{".word $FFFF,65535,$aBcD,256,0", 0, "\xFF\xFF\xFF\xFF\xCD\xAB\x00\x01\x00\x00", ""},
		{".byte <$1234,>$1234,<1,>1,<65535,>65535", 0, "\x34\x12\x01\x00\xFF\xFF", ""},
		{"x = $1234\n.byte <x,>x\n.word x,<x,>x", 0, "\x34\x12\x34\x12\x34\x00\x12\x00", "x=4660"},
		{".byte x,<y\nx = 1\ny = $102", 0, "\x01\x02", "x=1 y=258"},
		{"_ = 1\n_9z = 2\nA1 = 3\nXY = 4\na = 5\n.byte _,_9z,A1,XY,a", 0, "\x01\x02\x03\x04\x05", "_=1 _9z=2 A1=3 XY=4 a=5"},
		{"x = 7\ny = 8\nLDA x,X\nLDA y", 0, "\xB5\x07\xA5\x08", "x=7 y=8"},
		{long + " = 1\n.byte " + long, 0, "\x01", long + "=1"},
		{"LDA = 1\nLDA LDA", 0, "\xA5\x01", "LDA=1"},
		{"BNE: .byte BNE", 0, "\x00", "BNE=0"},
	} {
		checkGood(t, x)
	}
	for _, v := range []string{
		"", "$", "$12345", "$00000", "$g", "$-1", "$ ", "$$1", "65536", "99999", "000001", "100000", "-1", "+1", "1a", "0x1", "1_0", "1.0",
		"<", ">", "<<1", "<>1", "><1", "< ", "<$", "<A", ">X", "A", "X", "Y", "'a'", "a-b", "a+1", "a.b", "a$", "é", "\xFF", "a\r", "%1", "#1", "(1)", "$1$", "<1>",
		long + "n", "<" + long + "n",
	} {
		for _, form := range []string{"LDA %s,X", ".byte %s", ".byte 1,%s", ".byte %s,1", ".word %s", ".org %s", "n = %s"} {
			checkBad(t, bad{"NOP\n" + fmt.Sprintf(form, v), 2, api.ErrText})
		}
	}
}

// What is wide: two bytes are taken where one would do.
func TestWidth(t *testing.T) {
	for _, x := range []good{
		{"LDA $5", 0, "\xA5\x05", ""}, {"LDA $05", 0, "\xA5\x05", ""}, {"LDA $005", 0, "\xAD\x05\x00", ""}, {"LDA $0005", 0, "\xAD\x05\x00", ""},
		{"LDA 255", 0, "\xA5\xFF", ""}, {"LDA 00255", 0, "\xA5\xFF", ""}, {"LDA 256", 0, "\xAD\x00\x01", ""}, {"LDA 65535", 0, "\xAD\xFF\xFF", ""},
		{"LDA <$1234", 0, "\xA5\x34", ""}, {"LDA >$1234", 0, "\xA5\x12", ""}, {"LDA <$0005", 0, "\xA5\x05", ""},
		{"x = 5\nLDA x", 0, "\xA5\x05", "x=5"}, {"x = $005\nLDA x", 0, "\xAD\x05\x00", "x=5"}, {"x = 256\nLDA x", 0, "\xAD\x00\x01", "x=256"},
		{"x = $005\ny = x\nz = y\nLDA z", 0, "\xAD\x05\x00", "x=5 y=5 z=5"}, {"x = 5\ny = x\nLDA y", 0, "\xA5\x05", "x=5 y=5"},
		{"x = $1234\ny = <x\nLDA y", 0, "\xA5\x34", "x=4660 y=52"}, {"x = $1234\ny = >x\nLDA y,X", 0, "\xB5\x12", "x=4660 y=18"},
		{"l: LDA l", 0, "\xAD\x00\x00", "l=0"}, {"l:\nLDA l,X", 0, "\xBD\x00\x00", "l=0"}, {"l: x = l\nLDA x", 0, "\xAD\x00\x00", "l=0 x=0"},
		{"l: LDA <l", 0, "\xA5\x00", "l=0"}, {"LDA <l\nl: LDA >l", 0, "\xA5\x02\xA5\x00", "l=2"},
		{"LDA l\nl:", 0, "\xAD\x03\x00", "l=3"}, {"LDX l,Y\nl = 1", 0, "\xBE\x01\x00", "l=1"},
		{"LDA #$0005", 0, "\xA9\x05", ""}, {"LDA ($005,X)\nLDA ($0005),Y", 0, "\xA1\x05\xB1\x05", ""}, {"l: LDA #l\nLDA (l),Y", 0, "\xA9\x00\xB1\x00", "l=0"},
		{"LDA #x\nLDA (x,X)\nx = 5", 0, "\xA9\x05\xA1\x05", "x=5"},
	} {
		checkGood(t, x)
	}
	checkBad(t, bad{"STX l,Y\nl = 1", 1, api.ErrMode})
	checkBad(t, bad{"l: STX l,Y", 1, api.ErrMode})
	checkBad(t, bad{"x = $001\nSTY x,X", 2, api.ErrMode})
}

func TestBranches(t *testing.T) {
	for _, x := range []good{
		{"l: BNE l", 0, "\xD0\xFE", "l=0"},
		{"BNE l\nl:", 0, "\xD0\x00", "l=2"},
		{"BNE l\nNOP\nl: NOP", 0, "\xD0\x01\xEA\xEA", "l=3"},
		{"NOP\nBNE $82", 0, "\xEA\xD0\x7F", ""},
		{".org $80\nBNE 2", 0x80, "\xD0\x80", ""},
		{".org $F000\nBPL $F081\nBMI $EF84\nBVC x\nBVS x\nBCC x\nBCS x\nBEQ x\nx = $F010", 0xF000, "\x10\x7F\x30\x80\x50\x0A\x70\x08\x90\x06\xB0\x04\xF0\x02", "x=61456"},
		{".org $FFFE\nBNE l\nl:", 0xFFFE, "\xD0\x00", "l=65536"},
		{".org $FFFE\nBNE 0", 0xFFFE, "\xD0\x00", ""},
		{".org $FFF0\nBNE $0071", 0xFFF0, "\xD0\x7F", ""},
		{"BNE $FF82", 0, "\xD0\x80", ""},
		{"BNE <$0510", 0, "\xD0\x0E", ""},
	} {
		checkGood(t, x)
	}
	for _, x := range []bad{
		{"NOP\nBNE $83", 2, api.ErrFar}, {".org $80\nBNE 1", 2, api.ErrFar}, {"BNE 130", 1, api.ErrFar}, {"BNE $8002", 1, api.ErrFar}, {"BNE $8001", 1, api.ErrFar},
		{".org $FFF0\nBNE $0072", 2, api.ErrFar}, {"BNE $FF81", 1, api.ErrFar}, {"b: .org $200\nBNE b", 2, api.ErrFar}, {"NOP\nBNE l\n.org $200\nl:", 2, api.ErrFar},
	} {
		checkBad(t, x)
	}
}

func TestWhereBytesStand(t *testing.T) {
	for _, x := range []good{
		{"", 0, "", ""},
		{".org $F000", 0, "", ""},
		{".org $F000\nl:", 0, "", "l=61440"},
		{".org 5\n.org 5\n.org $10\nl: NOP", 0x10, "\xEA", "l=16"},
		{"NOP\n.org 1\nNOP", 0, "\xEA\xEA", ""},
		{"NOP\n.org 4", 0, "\xEA\x00\x00\x00", ""},
		{"NOP\n.org 3\nl: .org 4\nm: NOP", 0, "\xEA\x00\x00\x00\xEA", "l=3 m=4"},
		{".org 2\n.word $1234,l\nl: .byte 1", 2, "\x34\x12\x06\x00\x01", "l=6"},
		{"x = 3\n.org x\nNOP\n.org >$0500", 3, "\xEA\x00", "x=3"},
		{"l: .org l\nNOP\nm: .org m", 0, "\xEA", "l=0 m=1"},
		{".org $FFFF\nNOP", 0xFFFF, "\xEA", ""},
		{".org $FFFF\nNOP\nl:", 0xFFFF, "\xEA", "l=65536"},
		{".org $FFFD\nJMP l\nl:", 0xFFFD, "\x4C\x00\x00", "l=65536"},
		{".org $FFFA\n.word l\n.byte <l,>l\nLDA #>l\nl: x = l\n.org x", 0xFFFA, "\x00\x00\x00\x00\xA9\x00", "l=65536 x=65536"},
		{".org 65535\n.byte 1", 65535, "\x01", ""},
	} {
		checkGood(t, x)
	}
	for _, x := range []bad{
		{"NOP\n.org 0", 2, api.ErrRange}, {".org $10\nNOP\n.org $10", 3, api.ErrRange}, {".org $10\n.org $0F", 2, api.ErrRange},
		{"NOP\n.org <$0500", 2, api.ErrRange}, {".org $FFFF\nNOP\n.org $FFFF", 3, api.ErrRange},
		{".org 65536", 1, api.ErrText}, {".org $10000", 1, api.ErrText}, {".org", 1, api.ErrText}, {".org 1,2", 1, api.ErrText},
		{".org $FFFF\nLDA #1", 2, api.ErrLong}, {".org $FFFE\nJMP 1", 2, api.ErrLong}, {".org $FFFF\nNOP\nNOP", 3, api.ErrLong},
		{".org $FFFF\n.byte 1,2", 2, api.ErrLong}, {".org $FFFF\n.word 1", 2, api.ErrLong}, {".org $FFFF\n.byte 1\nl: .byte 2", 3, api.ErrLong},
		{".org $FFFE\nBNE l\nl: BNE l", 3, api.ErrLong},
		{".org $FFFE\nLDA #l\nl:", 2, api.ErrRange},
	} {
		checkBad(t, x)
	}
}

func TestNotesBlanksAndEmptyLines(t *testing.T) {
	for _, x := range []good{
		{"\n\n", 0, "", ""},
		{" \t \n;\n ; x: y = z\n\t;;", 0, "", ""},
		{"NOP;x", 0, "\xEA", ""}, {"NOP ; a: b", 0, "\xEA", ""}, {"\t NOP \t\n", 0, "\xEA", ""},
		{" l:NOP\n m: \t NOP\nn:\t; x", 0, "\xEA\xEA", "l=0 m=1 n=2"},
		{"x=1\ny =2\nz= 3\nw\t=\t4\nv  =  5 ;6\nl:u=6", 0, "", "x=1 y=2 z=3 w=4 v=5 l=0 u=6"},
		{"LDA \t #\t$ 1 2", 0, "\xA9\x12", ""}, {"LDA ( $10 , X )\nLDA ( 1 6 ) , Y\nASL\t \tA ;", 0, "\xA1\x10\xB1\x10\x0A", ""},
		{".byte 1 , 2\t, < $ 12 34\n.word\t1 0", 0, "\x01\x02\x34\x0A\x00", ""},
		{"x = 1 2\n.org x\nlo = $ F F\n.byte l o", 12, "\xFF", "x=12 lo=255"},
	} {
		checkGood(t, x)
	}
	for _, x := range []bad{
		{"LDA#1", 1, api.ErrName}, {"NOP\r", 1, api.ErrName}, {"\r", 1, api.ErrName}, {"NOP\n\r\nNOP", 2, api.ErrName}, {"NOP\v", 1, api.ErrName}, {"\u00a0NOP", 1, api.ErrName}, {"NO P", 1, api.ErrName}, {"LDA #1\r", 1, api.ErrText},
		{"l : NOP", 1, api.ErrText}, {"a b: NOP", 1, api.ErrText}, {"a b = 1", 1, api.ErrText},
		{".byte$10", 1, api.ErrName}, {". byte 1", 1, api.ErrName}, {".org$10", 1, api.ErrName},
	} {
		checkBad(t, x)
	}
}

// Each error of the chapter's list, with the number of its line.
func TestErrors(t *testing.T) {
	for _, x := range []bad{
		{"NOP\n\nFOO", 3, api.ErrName}, {"lda #1", 1, api.ErrName}, {"Lda #1", 1, api.ErrName}, {"LD", 1, api.ErrName}, {"LDAA #1", 1, api.ErrName}, {".foo 1", 1, api.ErrName}, {".ORG 1", 1, api.ErrName}, {".bytes 1", 1, api.ErrName}, {".", 1, api.ErrName}, {"#", 1, api.ErrName}, {"A", 1, api.ErrName}, {"\xFF", 1, api.ErrName},
		{".byte", 1, api.ErrText}, {".word\t", 1, api.ErrText}, {".org ;1", 1, api.ErrText}, {"l: .byte", 1, api.ErrText}, {".byte 1,", 1, api.ErrText}, {".word ,", 1, api.ErrText},
		{":", 1, api.ErrText}, {": NOP", 1, api.ErrText}, {"1:", 1, api.ErrText}, {"A: NOP", 1, api.ErrText}, {"X:", 1, api.ErrText}, {"Y:", 1, api.ErrText}, {"9a:", 1, api.ErrText}, {".org:", 1, api.ErrText}, {"a-b:", 1, api.ErrText}, {"a: b:", 1, api.ErrText}, {"a::", 1, api.ErrText}, {"a: b: NOP", 1, api.ErrText}, {"LDA #':", 1, api.ErrText},
		{"=", 1, api.ErrText}, {"= 5", 1, api.ErrText}, {"x =", 1, api.ErrText}, {"x == 5", 1, api.ErrText}, {"A = 1", 1, api.ErrText}, {"X = 1", 1, api.ErrText}, {"Y=1", 1, api.ErrText}, {"1 = 1", 1, api.ErrText}, {".x = 1", 1, api.ErrText}, {"LDA x = 1", 1, api.ErrText}, {"x = 1,2", 1, api.ErrText},
		{strings.Repeat("n", 33) + ":", 1, api.ErrText}, {strings.Repeat("n", 33) + " = 1", 1, api.ErrText},
		{"LDA y", 1, api.ErrName}, {"NOP\nLDA #y", 2, api.ErrName}, {"JMP (y)", 1, api.ErrName}, {"BNE y", 1, api.ErrName}, {".byte 1,y", 1, api.ErrName}, {".word <y", 1, api.ErrName}, {"LDA >y", 1, api.ErrName},
		{"x = z\nz = 1", 1, api.ErrName}, {"x = <z", 1, api.ErrName}, {"x = x", 1, api.ErrName}, {".org z\nz = 1", 1, api.ErrName}, {".org z", 1, api.ErrName}, {"NOP\nx = l\nl:", 2, api.ErrName},
		{"a: NOP\na: NOP", 2, api.ErrTwice}, {"a:\n\na = 1", 3, api.ErrTwice}, {"a = 1\na = 1", 2, api.ErrTwice}, {"a = 1\na: NOP", 2, api.ErrTwice}, {"a: a = 1", 1, api.ErrTwice}, {"a = 1\na = a", 2, api.ErrTwice},
		{"LDA #$100", 1, api.ErrRange}, {"LDA #256", 1, api.ErrRange}, {"LDA (256,X)", 1, api.ErrRange}, {"LDA ($100),Y", 1, api.ErrRange}, {".byte 255,256", 1, api.ErrRange}, {"NOP\n.byte x\nx = 256", 2, api.ErrRange}, {".org 256\nl: LDA #l", 2, api.ErrRange},
	} {
		checkBad(t, x)
	}
}

// Of several errors: those of the first going-through, of these the first
// line's, and of these the first one that is met.
func TestTheFirstErrorCounts(t *testing.T) {
	for _, x := range []bad{
		{"LDA y\nFOO", 2, api.ErrName}, {"LDA #300\n.byte", 2, api.ErrText}, {"BNE $8000\nNOP\n.org 0", 3, api.ErrRange}, {"LDA #300\na:\na:", 3, api.ErrTwice}, {"LDA y\nSTX 1,X", 2, api.ErrMode}, {"LDA y\n.org $FFFF\n.word 1", 3, api.ErrLong}, {"LDA y\nx = z", 2, api.ErrName},
		{"FOO\n.byte", 1, api.ErrName}, {".byte\nFOO", 1, api.ErrText}, {"LDA #300\nLDA y", 1, api.ErrRange}, {"LDA y\nLDA #300", 1, api.ErrName}, {"BNE $8000\nLDA y", 1, api.ErrFar},
		{"1: 2: FOO", 1, api.ErrText}, {"a:\na: b: FOO", 2, api.ErrTwice}, {"a: b: FOO", 1, api.ErrText}, {"a:\na: FOO", 2, api.ErrTwice}, {"a: FOO", 1, api.ErrName}, {"A: FOO", 1, api.ErrText},
		{"1 = z", 1, api.ErrName}, {"1 = $", 1, api.ErrText}, {"a:\na = z", 2, api.ErrName}, {"a:\na = $", 2, api.ErrText}, {"a: 1 = q", 1, api.ErrName}, {"FOO x = q", 1, api.ErrName}, {"FOO x = 1", 1, api.ErrText},
		{".byte y,300,$", 1, api.ErrText}, {".byte y,300", 1, api.ErrName}, {".byte 300,y", 1, api.ErrRange}, {".byte 1,300,y,400", 1, api.ErrRange}, {".word y,$", 1, api.ErrText}, {"NOP\n.org $", 2, api.ErrText},
		{"FOO (", 1, api.ErrName}, {"FOO $", 1, api.ErrName}, {"RTS (", 1, api.ErrText}, {"STA #$", 1, api.ErrText}, {"STA #y", 1, api.ErrMode}, {"STA #300", 1, api.ErrMode}, {"RTS y", 1, api.ErrMode},
		{".org $FFFF\nSTA #1", 2, api.ErrMode}, {".org $FFFF\nLDA #$", 2, api.ErrText}, {".org $FFFF\nFOO 1", 2, api.ErrName}, {".org $FFFF\na: a = 1", 2, api.ErrTwice}, {".org $FFFF\n.word 1,$", 2, api.ErrText},
		{".org $FFFF\nLDA #300", 2, api.ErrLong}, {".org $FFFF\n.byte y,1", 2, api.ErrLong}, {".org $FFFF\nBNE $8000", 2, api.ErrLong},
	} {
		checkBad(t, x)
	}
}

// manyNames says so many names, a line each.
func manyNames(n int) string {
	var s strings.Builder
	for i := range n {
		fmt.Fprintf(&s, "n%d=%d\n", i, i)
	}
	return s.String()
}

func TestAsManyNamesAsThereMayBe(t *testing.T) {
	full := manyNames(api.MaxNames)
	p, line, e := asm.Build(full + ".word n1023")
	if line != 0 || e != api.OK || string(p.Bytes) != "\xFF\x03" || len(p.Names) != api.MaxNames {
		t.Fatalf("P14.1: %d names: line %d, error %d, %d names", api.MaxNames, line, e, len(p.Names))
	}
	for i, n := range p.Names {
		if n != (asm.Name{Name: fmt.Sprint("n", i), Value: i}) {
			t.Fatalf("P14.1: name %d is %v", i, n)
		}
	}
	for _, x := range []bad{
		{full + "l:", 1025, api.ErrFull}, {full + "x = 1", 1025, api.ErrFull}, {full + "n0: NOP", 1025, api.ErrTwice}, {full + "n5 = 1", 1025, api.ErrTwice},
		{full + "A:", 1025, api.ErrText}, {full + "x = q", 1025, api.ErrName}, {full + "a: b: FOO", 1025, api.ErrFull}, {manyNames(1023) + "a: b = 1", 1024, api.ErrFull},
	} {
		checkBad(t, x)
	}
}

func TestAsLongAsASourceMayBe(t *testing.T) {
	source := "NOP" + strings.Repeat(" ", api.MaxText-3)
	checkGood(t, good{source, 0, "\xEA", ""})
	checkBad(t, bad{source + " ", 0, api.ErrLong})
	checkBad(t, bad{"FOO\n" + source, 0, api.ErrLong})
	checkGood(t, good{strings.Repeat("\n", api.MaxText), 0, "", ""})
	checkBad(t, bad{strings.Repeat("\n", api.MaxText-1) + "A", api.MaxText, api.ErrName})
	checkBad(t, bad{strings.Repeat("\n", api.MaxText+1), 0, api.ErrLong})
	p, line, e := asm.Build(".byte " + strings.Repeat("1,", 32000) + "1")
	if line != 0 || e != api.OK || len(p.Bytes) != 32001 {
		t.Errorf("P14.1: a long list: %d bytes, line %d, error %d", len(p.Bytes), line, e)
	}
	p, line, e = asm.Build("NOP\n.org $FFFF\nNOP")
	if line != 0 || e != api.OK || len(p.Bytes) != 1<<16 || p.Bytes[1] != 0 || p.Bytes[1<<16-1] != 0xEA {
		t.Errorf("P14.1: all addresses: %d bytes, line %d, error %d", len(p.Bytes), line, e)
	}
}

// What List tells of bytes makes these bytes.
func TestListsMakeTheirBytes(t *testing.T) {
	r := rand.New(rand.NewSource(4))
	for range 4000 {
		l := make([]byte, r.Intn(60))
		r.Read(l)
		at := []int{0, r.Intn(65536 - len(l)), 65536 - len(l), 130}[r.Intn(4)]
		if at > 0xFFFF {
			continue
		}
		back(t, at, l)
	}
	for op := range 256 {
		if code.Length(uint8(op)) != 2 {
			continue
		}
		step := 51
		if code.Of(uint8(op)).Mode == code.Rel {
			step = 1
		}
		for a := 0; a < 256; a += step {
			back(t, 0, []byte{byte(op), byte(a)})
			back(t, 0xFFFE, []byte{byte(op), byte(a)})
		}
	}
}

func back(t *testing.T, at int, l []byte) {
	t.Helper()
	source := fmt.Sprintf(".org $%04X\n%s", at, strings.Join(text.List(uint16(at), l), "\n"))
	p, line, e := asm.Build(source)
	if line != 0 || e != api.OK || !slices.Equal(p.Bytes, l) || len(l) > 0 && p.Start != at {
		t.Fatalf("P14.2: %q: %x from %x on, line %d, error %d, not %x", source, p.Bytes, p.Start, line, e, l)
	}
}
