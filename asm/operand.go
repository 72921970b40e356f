package asm

import (
	"slices"
	"strings"

	"woodgrain/api"
	"woodgrain/code"
)

// operand is what stands behind a mnemonic: a value, or none, and the mode that
// its form tells. Where the form leaves room for two it is the narrow one.
type operand struct {
	mode   code.Mode
	values []value
}

// shape is what stands round an operand's value.
type shape struct {
	ahead, behind string
	mode          code.Mode
}

// shapes are looked at one by one: the last ones fit more than is theirs.
var shapes = [7]shape{
	{"#", "", code.Imm},
	{"(", ",X)", code.Izx},
	{"(", "),Y", code.Izy},
	{"(", ")", code.Ind},
	{"", ",X", code.Zpx},
	{"", ",Y", code.Zpy},
	{"", "", code.Zp},
}

// mnemonic reads a line that makes a code.
func (b *builder) mnemonic(name, text string) {
	if _, there := slices.BinarySearch(b.mnemonics, name); !there {
		panic(wrong(api.ErrName))
	}
	o := readOperand(squeeze(text))
	op, mode := b.choose(name, o)
	b.add(piece{head: []byte{op}, as: layoutOf(op, mode), values: o.values})
}

// readOperand reads an operand without blanks.
func readOperand(text string) operand {
	switch text {
	case "":
		return operand{mode: code.Imp}
	case "A":
		return operand{mode: code.Acc}
	}
	for _, s := range shapes {
		if inner, fits := s.cut(text); fits {
			return operand{mode: s.mode, values: []value{readValue(inner)}}
		}
	}
	panic(wrong(api.ErrText))
}

// cut tells what stands within the shape.
func (s shape) cut(text string) (inner string, fits bool) {
	inner, begins := strings.CutPrefix(text, s.ahead)
	inner, ends := strings.CutSuffix(inner, s.behind)
	return inner, begins && ends
}

// choose finds the code of a name and an operand.
func (b *builder) choose(name string, o operand) (uint8, code.Mode) {
	for _, mode := range b.modes(name, o) {
		if op, there := code.Find(name, mode); there {
			return op, mode
		}
	}
	panic(wrong(api.ErrMode))
}

// modes are those that an operand may have, the first one first.
func (b *builder) modes(name string, o operand) []code.Mode {
	var broad code.Mode
	switch o.mode {
	case code.Zp:
		if _, branch := code.Find(name, code.Rel); branch {
			return []code.Mode{code.Rel}
		}
		broad = code.Abs
	case code.Zpx:
		broad = code.Abx
	case code.Zpy:
		broad = code.Aby
	default:
		return []code.Mode{o.mode}
	}
	if b.wide(o.values[0]) {
		return []code.Mode{broad}
	}
	return []code.Mode{o.mode, broad}
}

// layoutOf tells how a code's value is put.
func layoutOf(op uint8, mode code.Mode) layout {
	if mode == code.Rel {
		return distance
	}
	if code.Length(op) == 3 {
		return twoBytes
	}
	return oneByte
}
