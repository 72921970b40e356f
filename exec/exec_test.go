package exec_test

import (
	"maps"
	"slices"
	"strings"
	"testing"

	"woodgrain/api"
	"woodgrain/code"
	"woodgrain/exec"
)

// someFlags are none, all, and each way of those that sums, shifts and marks
// take or leave.
var someFlags = []uint8{0x00, 0x01, 0x08, 0x09, 0x34, 0x36, 0xFD, 0xFF, 0xF6}

// others are registers that differ from one another, whatever the bytes are.
func others(a, m, p uint8) api.Regs {
	return api.Regs{A: a, X: a*7 + m*3 + 5, Y: a*11 + m + 0x80, S: a ^ m*5 + 1, P: p, PC: uint16(a)*257 ^ uint16(m)<<5}
}

// eachByte calls f with each pair of bytes and some flags.
func eachByte(f func(a, m, p uint8)) {
	for a := range 256 {
		for m := range 256 {
			for _, p := range someFlags {
				f(uint8(a), uint8(m), p)
			}
		}
	}
}

// TestEachNameHasItsModel: no name of a kind is left out of what is tested.
func TestEachNameHasItsModel(t *testing.T) {
	for _, x := range []struct {
		kind   code.Kind
		models []string
	}{
		{code.KRead, slices.Sorted(maps.Keys(reads))},
		{code.KSelf, slices.Sorted(maps.Keys(selves))},
		{code.KStore, slices.Sorted(maps.Keys(stores))},
		{code.KTurn, slices.Sorted(maps.Keys(turns))},
		{code.KBranch, slices.Sorted(maps.Keys(branches))},
	} {
		if names := slices.Sorted(maps.Keys(namesOf(x.kind))); !slices.Equal(names, x.models) {
			t.Errorf("the test's own models of kind %d are not those of its names: %v, %v", x.kind, x.models, names)
		}
	}
}

func TestReadEverywhere(t *testing.T) {
	for name, model := range reads {
		t.Run(name, func(t *testing.T) {
			t.Parallel()
			eachByte(func(a, m, p uint8) {
				r := others(a, m, p)
				if got, want := exec.Read(name, r, m), model(r, m); got != want {
					t.Fatalf("P11.1: Read(%s, %x, %x): %x, not %x", name, r, m, got, want)
				}
			})
		})
	}
}

func TestTurnEverywhere(t *testing.T) {
	for name, model := range turns {
		t.Run(name, func(t *testing.T) {
			t.Parallel()
			eachByte(func(a, m, p uint8) {
				r := others(a, m, p)
				v, got := exec.Turn(name, r, m)
				if wantV, want := model(r, m); v != wantV || got != want {
					t.Fatalf("P11.1: Turn(%s, %x, %x): %x, %x, not %x, %x", name, r, m, v, got, wantV, want)
				}
			})
		})
	}
}

func TestSelfEverywhere(t *testing.T) {
	for name, model := range selves {
		for v := range 256 {
			for p := range 256 {
				r := api.Regs{A: uint8(v), X: uint8(v) + 0x41, Y: uint8(v) + 0x92, S: uint8(v) + 0xE3, P: uint8(p), PC: 0xFFFF}
				if got, want := exec.Self(name, r), model(r); got != want {
					t.Fatalf("P11.1: Self(%s, %x): %x, not %x", name, r, got, want)
				}
			}
		}
	}
}

func TestStoreEverywhere(t *testing.T) {
	for name, model := range stores {
		eachByte(func(a, base, p uint8) {
			r := others(a, base, p)
			v, got := exec.Store(name, r, base)
			if wantV, want := model(r, int(base)); v != wantV || got != want {
				t.Fatalf("P11.1: Store(%s, %x, %x): %x, %x, not %x, %x", name, r, base, v, got, wantV, want)
			}
		})
	}
}

// told are registers, A, X, Y, S and P, ahead of a code and behind it.
type told struct {
	name string
	r    [5]uint8
	m    uint8
	want [5]uint8
}

// regs are registers with a PC that is to stay.
func regs(l [5]uint8) api.Regs {
	return api.Regs{A: l[0], X: l[1], Y: l[2], S: l[3], P: l[4], PC: 0xF123}
}

func TestReadTold(t *testing.T) {
	for _, x := range []told{
		{"ORA", [5]uint8{0x0F, 1, 2, 3, 0x00}, 0x80, [5]uint8{0x8F, 1, 2, 3, 0x80}},
		{"ORA", [5]uint8{0x00, 1, 2, 3, 0xFD}, 0x00, [5]uint8{0x00, 1, 2, 3, 0x7F}},
		{"AND", [5]uint8{0x0F, 1, 2, 3, 0x80}, 0x3C, [5]uint8{0x0C, 1, 2, 3, 0x00}},
		{"AND", [5]uint8{0x0F, 1, 2, 3, 0xFF}, 0xF0, [5]uint8{0x00, 1, 2, 3, 0x7F}},
		{"EOR", [5]uint8{0x0F, 1, 2, 3, 0x00}, 0xFF, [5]uint8{0xF0, 1, 2, 3, 0x80}},
		{"EOR", [5]uint8{0x5A, 1, 2, 3, 0x00}, 0x5A, [5]uint8{0x00, 1, 2, 3, 0x02}},
		{"ADC", [5]uint8{0x50, 1, 2, 3, 0x00}, 0x50, [5]uint8{0xA0, 1, 2, 3, 0xC0}},
		{"ADC", [5]uint8{0xFF, 1, 2, 3, 0x00}, 0x01, [5]uint8{0x00, 1, 2, 3, 0x03}},
		{"ADC", [5]uint8{0x58, 1, 2, 3, 0x09}, 0x46, [5]uint8{0x05, 1, 2, 3, 0xC9}}, // decimal
		{"ADC", [5]uint8{0x99, 1, 2, 3, 0x08}, 0x01, [5]uint8{0x00, 1, 2, 3, 0x89}}, // decimal: 0 without Z
		{"SBC", [5]uint8{0x05, 1, 2, 3, 0x01}, 0x03, [5]uint8{0x02, 1, 2, 3, 0x01}},
		{"SBC", [5]uint8{0x05, 1, 2, 3, 0x00}, 0x05, [5]uint8{0xFF, 1, 2, 3, 0x80}},
		{"SBC", [5]uint8{0x12, 1, 2, 3, 0x09}, 0x21, [5]uint8{0x91, 1, 2, 3, 0x88}}, // decimal
		{"CMP", [5]uint8{0x05, 9, 9, 9, 0x00}, 0x05, [5]uint8{0x05, 9, 9, 9, 0x03}},
		{"CMP", [5]uint8{0x80, 9, 9, 9, 0x48}, 0x01, [5]uint8{0x80, 9, 9, 9, 0x49}}, // D and V stay
		{"CPX", [5]uint8{0x09, 5, 9, 9, 0x01}, 0x06, [5]uint8{0x09, 5, 9, 9, 0x80}},
		{"CPY", [5]uint8{0x09, 9, 5, 9, 0xFF}, 0x04, [5]uint8{0x09, 9, 5, 9, 0x7D}},
		{"BIT", [5]uint8{0x01, 1, 2, 3, 0x01}, 0xC0, [5]uint8{0x01, 1, 2, 3, 0xC3}},
		{"BIT", [5]uint8{0xFF, 1, 2, 3, 0xFF}, 0x3F, [5]uint8{0xFF, 1, 2, 3, 0x3D}},
		{"LDA", [5]uint8{0x07, 1, 2, 3, 0x80}, 0x00, [5]uint8{0x00, 1, 2, 3, 0x02}},
		{"LDX", [5]uint8{0x07, 1, 2, 3, 0x02}, 0x80, [5]uint8{0x07, 0x80, 2, 3, 0x80}},
		{"LDY", [5]uint8{0x07, 1, 2, 3, 0xFF}, 0x7F, [5]uint8{0x07, 1, 0x7F, 3, 0x7D}},
		{"LAX", [5]uint8{0x07, 1, 2, 3, 0x00}, 0x80, [5]uint8{0x80, 0x80, 2, 3, 0x80}},
		{"LAX", [5]uint8{0x07, 1, 2, 3, 0xFD}, 0x00, [5]uint8{0x00, 0x00, 2, 3, 0x7F}},
		{"LAS", [5]uint8{0x07, 1, 2, 0xF3, 0x02}, 0x9F, [5]uint8{0x93, 0x93, 2, 0x93, 0x80}},
		{"LAS", [5]uint8{0x07, 1, 2, 0xF0, 0x80}, 0x0F, [5]uint8{0x00, 0x00, 2, 0x00, 0x02}},
		{"NOP", [5]uint8{0x07, 1, 2, 3, 0xFF}, 0x00, [5]uint8{0x07, 1, 2, 3, 0xFF}},
		{"ANC", [5]uint8{0xF0, 1, 2, 3, 0x00}, 0x8F, [5]uint8{0x80, 1, 2, 3, 0x81}},
		{"ANC", [5]uint8{0x7F, 1, 2, 3, 0xFF}, 0x80, [5]uint8{0x00, 1, 2, 3, 0x7E}},
		{"ALR", [5]uint8{0xFF, 1, 2, 3, 0x01}, 0x81, [5]uint8{0x40, 1, 2, 3, 0x01}}, // not turned
		{"ALR", [5]uint8{0x01, 1, 2, 3, 0x80}, 0x01, [5]uint8{0x00, 1, 2, 3, 0x03}},
		{"ARR", [5]uint8{0xFF, 1, 2, 3, 0x01}, 0xFF, [5]uint8{0xFF, 1, 2, 3, 0x81}},
		{"ARR", [5]uint8{0xFF, 1, 2, 3, 0x00}, 0x40, [5]uint8{0x20, 1, 2, 3, 0x40}},
		{"ARR", [5]uint8{0xFF, 1, 2, 3, 0x09}, 0x66, [5]uint8{0x19, 1, 2, 3, 0xC9}}, // decimal
		{"ARR", [5]uint8{0xFF, 1, 2, 3, 0x09}, 0x44, [5]uint8{0xA2, 1, 2, 3, 0xC8}}, // decimal, nothing mended
		{"ANE", [5]uint8{0x00, 0xFF, 2, 3, 0x00}, 0xFF, [5]uint8{0xEE, 0xFF, 2, 3, 0x80}},
		{"ANE", [5]uint8{0x11, 0x3F, 2, 3, 0x80}, 0x1F, [5]uint8{0x1F, 0x3F, 2, 3, 0x00}},
		{"ANE", [5]uint8{0x00, 0xFF, 2, 3, 0x80}, 0x11, [5]uint8{0x00, 0xFF, 2, 3, 0x02}},
		{"LXA", [5]uint8{0x00, 1, 2, 3, 0x00}, 0xFF, [5]uint8{0xEE, 0xEE, 2, 3, 0x80}},
		{"LXA", [5]uint8{0x11, 1, 2, 3, 0x80}, 0x1F, [5]uint8{0x1F, 0x1F, 2, 3, 0x00}},
		{"LXA", [5]uint8{0x00, 1, 2, 3, 0x80}, 0x11, [5]uint8{0x00, 0x00, 2, 3, 0x02}},
		{"SBX", [5]uint8{0x0F, 0x3C, 2, 3, 0x00}, 0x04, [5]uint8{0x0F, 0x08, 2, 3, 0x01}},
		{"SBX", [5]uint8{0x0F, 0x3C, 2, 3, 0x49}, 0x0D, [5]uint8{0x0F, 0xFF, 2, 3, 0xC8}}, // D and V stay
		{"SBX", [5]uint8{0x0F, 0x3C, 2, 3, 0x00}, 0x0C, [5]uint8{0x0F, 0x00, 2, 3, 0x03}}, // C counts for nothing
	} {
		if r := exec.Read(x.name, regs(x.r), x.m); r != regs(x.want) {
			t.Errorf("P11.1: Read(%s, %x, %x): %x, not %x", x.name, x.r, x.m, r, x.want)
		}
	}
}

func TestSelfTold(t *testing.T) {
	for _, x := range []told{
		{"CLC", [5]uint8{1, 2, 3, 4, 0xFF}, 0, [5]uint8{1, 2, 3, 4, 0xFE}},
		{"CLD", [5]uint8{1, 2, 3, 4, 0xFF}, 0, [5]uint8{1, 2, 3, 4, 0xF7}},
		{"CLI", [5]uint8{1, 2, 3, 4, 0xFF}, 0, [5]uint8{1, 2, 3, 4, 0xFB}},
		{"CLV", [5]uint8{1, 2, 3, 4, 0xFF}, 0, [5]uint8{1, 2, 3, 4, 0xBF}},
		{"CLC", [5]uint8{1, 2, 3, 4, 0x00}, 0, [5]uint8{1, 2, 3, 4, 0x00}},
		{"SEC", [5]uint8{0, 2, 3, 4, 0x00}, 0, [5]uint8{0, 2, 3, 4, 0x01}},
		{"SED", [5]uint8{0, 2, 3, 4, 0x00}, 0, [5]uint8{0, 2, 3, 4, 0x08}},
		{"SEI", [5]uint8{0, 2, 3, 4, 0x00}, 0, [5]uint8{0, 2, 3, 4, 0x04}},
		{"SEI", [5]uint8{0, 2, 3, 4, 0x04}, 0, [5]uint8{0, 2, 3, 4, 0x04}},
		{"TAX", [5]uint8{0x80, 2, 3, 4, 0x02}, 0, [5]uint8{0x80, 0x80, 3, 4, 0x80}},
		{"TAY", [5]uint8{0x00, 2, 3, 4, 0x80}, 0, [5]uint8{0x00, 2, 0x00, 4, 0x02}},
		{"TXA", [5]uint8{1, 0x7F, 3, 4, 0xFF}, 0, [5]uint8{0x7F, 0x7F, 3, 4, 0x7D}},
		{"TYA", [5]uint8{1, 2, 0xFF, 4, 0x00}, 0, [5]uint8{0xFF, 2, 0xFF, 4, 0x80}},
		{"TSX", [5]uint8{1, 2, 3, 0x00, 0x80}, 0, [5]uint8{1, 0x00, 3, 0x00, 0x02}},
		{"TXS", [5]uint8{1, 0x00, 3, 4, 0x80}, 0, [5]uint8{1, 0x00, 3, 0x00, 0x80}}, // nothing is marked
		{"INX", [5]uint8{1, 0xFF, 3, 4, 0x80}, 0, [5]uint8{1, 0x00, 3, 4, 0x02}},
		{"INY", [5]uint8{1, 2, 0x7F, 4, 0x02}, 0, [5]uint8{1, 2, 0x80, 4, 0x80}},
		{"DEX", [5]uint8{1, 0x00, 3, 4, 0x03}, 0, [5]uint8{1, 0xFF, 3, 4, 0x81}},
		{"DEY", [5]uint8{1, 2, 0x01, 4, 0xFD}, 0, [5]uint8{1, 2, 0x00, 4, 0x7F}},
		{"NOP", [5]uint8{1, 2, 3, 4, 0x5A}, 0, [5]uint8{1, 2, 3, 4, 0x5A}},
	} {
		if r := exec.Self(x.name, regs(x.r)); r != regs(x.want) {
			t.Errorf("P11.1: Self(%s, %x): %x, not %x", x.name, x.r, r, x.want)
		}
	}
}

func TestStoreTold(t *testing.T) {
	for _, x := range []struct {
		name    string
		r       [5]uint8
		base, v uint8
		s       uint8 // behind it
	}{
		{"STA", [5]uint8{0x12, 0x34, 0x56, 0x78, 0xFF}, 0x0F, 0x12, 0x78},
		{"STX", [5]uint8{0x12, 0x34, 0x56, 0x78, 0xFF}, 0x0F, 0x34, 0x78},
		{"STY", [5]uint8{0x12, 0x34, 0x56, 0x78, 0xFF}, 0x0F, 0x56, 0x78},
		{"SAX", [5]uint8{0xF3, 0x3F, 0x56, 0x78, 0x00}, 0x0F, 0x33, 0x78},
		{"SHA", [5]uint8{0xF3, 0x3F, 0x56, 0x78, 0x00}, 0x10, 0x11, 0x78},
		{"SHX", [5]uint8{0xFF, 0x0F, 0xFF, 0x78, 0x00}, 0x12, 0x03, 0x78},
		{"SHY", [5]uint8{0xFF, 0xFF, 0x0F, 0x78, 0x00}, 0x12, 0x03, 0x78},
		{"TAS", [5]uint8{0xF3, 0x3F, 0xFF, 0x78, 0x00}, 0x10, 0x11, 0x33},
		// One more than FF is 0.
		{"SHA", [5]uint8{0xFF, 0xFF, 0xFF, 0xFF, 0x00}, 0xFF, 0x00, 0xFF},
		{"SHX", [5]uint8{0xFF, 0xFF, 0xFF, 0xFF, 0x00}, 0xFF, 0x00, 0xFF},
		{"SHY", [5]uint8{0xFF, 0xFF, 0xFF, 0xFF, 0x00}, 0xFF, 0x00, 0xFF},
		{"TAS", [5]uint8{0xFF, 0xF1, 0xFF, 0xFF, 0x00}, 0xFF, 0x00, 0xF1},
		{"SHA", [5]uint8{0xFF, 0xFF, 0xFF, 0xFF, 0x00}, 0xFE, 0xFF, 0xFF},
		{"STA", [5]uint8{0xFF, 0xFF, 0xFF, 0xFF, 0x00}, 0xFF, 0xFF, 0xFF},
		{"SAX", [5]uint8{0xFF, 0xFF, 0xFF, 0xFF, 0x00}, 0xFF, 0xFF, 0xFF},
	} {
		want := regs(x.r)
		want.S = x.s
		if v, r := exec.Store(x.name, regs(x.r), x.base); v != x.v || r != want {
			t.Errorf("P11.1: Store(%s, %x, %x): %x, %x, not %x, %x", x.name, x.r, x.base, v, r, x.v, want)
		}
	}
}

func TestTurnTold(t *testing.T) {
	for _, x := range []struct {
		name       string
		a, p, m    uint8
		v, aBehind uint8
		pBehind    uint8
	}{
		{"ASL", 7, 0x01, 0xC1, 0x82, 7, 0x81},
		{"ASL", 7, 0x80, 0x80, 0x00, 7, 0x03},
		{"ROL", 7, 0x01, 0x40, 0x81, 7, 0x80},
		{"ROL", 7, 0x00, 0x80, 0x00, 7, 0x03},
		{"LSR", 7, 0x81, 0x03, 0x01, 7, 0x01},
		{"LSR", 7, 0x01, 0x00, 0x00, 7, 0x02},
		{"ROR", 7, 0x01, 0x02, 0x81, 7, 0x80},
		{"ROR", 7, 0x00, 0x01, 0x00, 7, 0x03},
		{"INC", 7, 0x81, 0xFF, 0x00, 7, 0x03},
		{"INC", 7, 0x00, 0x7F, 0x80, 7, 0x80},
		{"DEC", 7, 0x02, 0x00, 0xFF, 7, 0x80},
		{"DEC", 7, 0x49, 0x01, 0x00, 7, 0x4B},
		{"SLO", 0x01, 0x01, 0xC0, 0x80, 0x81, 0x81},
		{"SLO", 0x00, 0x00, 0x80, 0x00, 0x00, 0x03},
		{"SLO", 0x40, 0x02, 0x80, 0x00, 0x40, 0x01}, // marked by A, not by the byte
		{"RLA", 0x01, 0x01, 0x80, 0x01, 0x01, 0x01},
		{"RLA", 0xFE, 0x01, 0x00, 0x01, 0x00, 0x02},
		{"SRE", 0x81, 0x01, 0x03, 0x01, 0x80, 0x81},
		{"SRE", 0x01, 0x00, 0x02, 0x01, 0x00, 0x02},
		{"RRA", 0x10, 0x00, 0x03, 0x01, 0x12, 0x00}, // the C that ROR leaves is added
		{"RRA", 0x10, 0x01, 0x02, 0x81, 0x91, 0x80},
		{"RRA", 0x58, 0x08, 0x8D, 0x46, 0x05, 0xC9}, // decimal: 58, 46 and 1
		{"DCP", 0x05, 0x00, 0x06, 0x05, 0x05, 0x03},
		{"DCP", 0x05, 0x01, 0x07, 0x06, 0x05, 0x80},
		{"DCP", 0x05, 0x48, 0x00, 0xFF, 0x05, 0x48}, // D and V stay
		{"ISC", 0x05, 0x01, 0x02, 0x03, 0x02, 0x01},
		{"ISC", 0x05, 0x00, 0xFF, 0x00, 0x04, 0x01},
		{"ISC", 0x12, 0x09, 0x20, 0x21, 0x91, 0x88}, // decimal
	} {
		r := api.Regs{A: x.a, X: 0xF0, Y: 0x0F, S: 0x55, P: x.p, PC: 0xF123}
		want := r
		want.A, want.P = x.aBehind, x.pBehind
		if v, got := exec.Turn(x.name, r, x.m); v != x.v || got != want {
			t.Errorf("P11.1: Turn(%s, %x, %x): %x, %x, not %x, %x", x.name, r, x.m, v, got, x.v, want)
		}
	}
}

// TestExamples are those of the chapter.
func TestExamples(t *testing.T) {
	if r := exec.Read("LDA", api.Regs{A: 9}, 0); r != (api.Regs{P: api.FlagZ}) {
		t.Errorf("P11.1: LDA of 0: %x", r)
	}
	if v, _ := exec.Store("SHX", api.Regs{X: 0x0F}, 0x12); v != 3 {
		t.Errorf("P11.1: SHX: %x", v)
	}
	if v, r := exec.Turn("DCP", api.Regs{A: 5}, 6); v != 5 || r != (api.Regs{A: 5, P: api.FlagZ | api.FlagC}) {
		t.Errorf("P11.1: DCP: %x, %x", v, r)
	}
}

func TestGoes(t *testing.T) {
	for name, b := range branches {
		for p := range 256 {
			if want := (uint8(p)&b.flag != 0) == b.set; exec.Goes(name, uint8(p)) != want {
				t.Errorf("P11.2: Goes(%s, %x): %v", name, p, !want)
			}
		}
	}
	for _, x := range []struct {
		name string
		p    uint8
		want bool
	}{
		{"BPL", 0x7F, true}, {"BPL", 0x80, false}, {"BMI", 0x80, true}, {"BMI", 0x7F, false},
		{"BVC", 0xBF, true}, {"BVC", 0x40, false}, {"BVS", 0x40, true}, {"BVS", 0xBF, false},
		{"BCC", 0xFE, true}, {"BCC", 0x01, false}, {"BCS", 0x01, true}, {"BCS", 0xFE, false},
		{"BNE", 0xFD, true}, {"BNE", 0x02, false}, {"BEQ", 0x02, true}, {"BEQ", 0xFD, false},
	} {
		if exec.Goes(x.name, x.p) != x.want {
			t.Errorf("P11.2: Goes(%s, %x): %v", x.name, x.p, !x.want)
		}
	}
}

func TestUnsure(t *testing.T) {
	for _, name := range append(notNames(), code.Names()...) {
		want := slices.Contains([]string{"SHA", "SHX", "SHY", "TAS"}, name)
		if exec.Unsure(name) != want {
			t.Errorf("P11.2: Unsure(%q): %v", name, !want)
		}
	}
}

// notNames are near to names, or far from them.
func notNames() []string {
	l := []string{"", " ", "\x00", "LD", "LDAA", "LDA ", " LDA", "Lda", "XXX", "BRA", "STZ", "KIL", "\xFF\xFF\xFF", strings.Repeat("SHA", 1000)}
	for _, name := range code.Names() {
		l = append(l, strings.ToLower(name), name[:2], name+name, name[1:])
	}
	return l
}

// TestNoneOfTheKind: names of other kinds, and such as are none.
func TestNoneOfTheKind(t *testing.T) {
	isRead, isSelf, isStore := namesOf(code.KRead), namesOf(code.KSelf), namesOf(code.KStore)
	isTurn, isBranch := namesOf(code.KTurn), namesOf(code.KBranch)
	for _, name := range append(notNames(), code.Names()...) {
		for _, p := range someFlags {
			r := api.Regs{A: 0x81, X: 0x42, Y: 0x24, S: 0x18, P: p, PC: 0xF00D}
			if got := exec.Read(name, r, 0x33); !isRead[name] && got != r {
				t.Errorf("P11.2: Read(%q): %x", name, got)
			}
			if got := exec.Self(name, r); !isSelf[name] && got != r {
				t.Errorf("P11.2: Self(%q): %x", name, got)
			}
			if v, got := exec.Store(name, r, 0xFE); !isStore[name] && (v != 0 || got != r) {
				t.Errorf("P11.2: Store(%q): %x, %x", name, v, got)
			}
			if v, got := exec.Turn(name, r, 0x33); !isTurn[name] && (v != 0x33 || got != r) {
				t.Errorf("P11.2: Turn(%q): %x, %x", name, v, got)
			}
			if exec.Goes(name, p) && !isBranch[name] {
				t.Errorf("P11.2: Goes(%q, %x)", name, p)
			}
		}
	}
}

// TestWhatStays: PC by all, and I, D, B, U by all but KSelf; of these just
// what their names say.
func TestWhatStays(t *testing.T) {
	const kept = api.FlagI | api.FlagD | api.FlagB | api.FlagU
	changes := map[string]uint8{"CLD": api.FlagD, "SED": api.FlagD, "CLI": api.FlagI, "SEI": api.FlagI}
	for _, name := range code.Names() {
		for p := range 256 {
			for m := 0; m < 256; m += 15 {
				r := others(uint8(p)*3+1, uint8(m), uint8(p))
				_, stored := exec.Store(name, r, uint8(m))
				_, turned := exec.Turn(name, r, uint8(m))
				self := exec.Self(name, r)
				for _, got := range []api.Regs{exec.Read(name, r, uint8(m)), stored, turned} {
					if got.PC != r.PC || (got.P^r.P)&kept != 0 {
						t.Fatalf("P11.3: %s: %x, ahead %x", name, got, r)
					}
				}
				if self.PC != r.PC || (self.P^r.P)&kept&^changes[name] != 0 {
					t.Fatalf("P11.3: Self(%s): %x, ahead %x", name, self, r)
				}
			}
		}
	}
}
