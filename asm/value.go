package asm

import (
	"strconv"
	"strings"

	"woodgrain/api"
)

// meaning is what a name stands for.
type meaning struct {
	number int
	wide   bool
}

// value is one as it is written: a number, or a name that stands for one.
type value struct {
	part byte // '<' or '>', if a byte of it is meant
	name string
	meaning
}

// readValues reads a directive's values: there is one at least.
func readValues(text string) []value {
	var values []value
	for _, item := range strings.Split(squeeze(text), ",") {
		values = append(values, readValue(item))
	}
	return values
}

// readValue reads a value without blanks.
func readValue(text string) value {
	if text == "" {
		panic(wrong(api.ErrText))
	}
	if text[0] == '<' || text[0] == '>' {
		v := readWhole(text[1:])
		v.part = text[0]
		return v
	}
	return readWhole(text)
}

// readWhole reads a value of which no byte is taken out.
func readWhole(text string) value {
	if isName(text) {
		return value{name: text}
	}
	if digits, there := strings.CutPrefix(text, "$"); there {
		return value{meaning: meaning{number: readNumber(digits, 16, 4), wide: len(digits) > 2}}
	}
	n := readNumber(text, 10, 5)
	return value{meaning: meaning{number: n, wide: n > 255}}
}

func readNumber(digits string, base, most int) int {
	n, err := strconv.ParseUint(digits, base, 16)
	if err != nil || len(digits) > most {
		panic(wrong(api.ErrText))
	}
	return int(n)
}

// wide: does it, by what is known now, need two bytes?
func (b *builder) wide(v value) bool {
	if v.part != 0 {
		return false
	}
	if v.name == "" {
		return v.meaning.wide
	}
	m, known := b.names[v.name]
	return !known || m.wide
}

// number tells what a value is, by the names that are known now.
func (b *builder) number(v value) int {
	m := v.meaning
	if v.name != "" {
		known := false
		if m, known = b.names[v.name]; !known {
			panic(wrong(api.ErrName))
		}
	}
	switch v.part {
	case '<':
		return m.number & 0xFF
	case '>':
		return m.number >> 8 & 0xFF
	}
	return m.number
}

// isName: A, X and Y are none, since operands have them.
func isName(text string) bool {
	if text == "" || len(text) > api.MaxName || text == "A" || text == "X" || text == "Y" {
		return false
	}
	for i := range len(text) {
		if !isLetter(text[i]) && (i == 0 || !isDigit(text[i])) {
			return false
		}
	}
	return true
}

func isLetter(c byte) bool {
	return c == '_' || c >= 'a' && c <= 'z' || c >= 'A' && c <= 'Z'
}

func isDigit(c byte) bool {
	return c >= '0' && c <= '9'
}
