package text

import (
	"iter"

	"woodgrain/code"
)

// form is how the codes of a mode are written behind their names: so many
// digits, and what stands round them.
type form struct {
	ahead  string
	digits int
	behind string
}

// forms are those of the modes that have one; of Imp the name is all.
func forms() map[code.Mode]form {
	return map[code.Mode]form{
		code.Acc: {ahead: " A"},
		code.Imm: {ahead: " #$", digits: 2},
		code.Zp:  {ahead: " $", digits: 2},
		code.Zpx: {ahead: " $", digits: 2, behind: ",X"},
		code.Zpy: {ahead: " $", digits: 2, behind: ",Y"},
		code.Abs: {ahead: " $", digits: 4},
		code.Abx: {ahead: " $", digits: 4, behind: ",X"},
		code.Aby: {ahead: " $", digits: 4, behind: ",Y"},
		code.Izx: {ahead: " ($", digits: 2, behind: ",X)"},
		code.Izy: {ahead: " ($", digits: 2, behind: "),Y"},
		code.Rel: {ahead: " $", digits: 4},
		code.Ind: {ahead: " ($", digits: 4, behind: ")"},
	}
}

// show tells a code at an address, with the two bytes behind it as one number:
// of it a form takes as many digits as it has.
func show(forms map[code.Mode]form, c code.Code, operand, at uint16) string {
	if c.Mode == code.Rel {
		operand = target(at, uint8(operand))
	}
	f := forms[c.Mode]
	return c.Name + f.ahead + Hex(int(operand), f.digits) + f.behind
}

// page is what layer 10 tells of a code.
type page struct {
	code.Code
	length int
	plain  bool
}

// book keeps the pages that were asked for: a long list asks for the same few
// again and again.
type book struct {
	forms map[code.Mode]form
	pages [256]page
}

func newBook() *book {
	return &book{forms: forms()}
}

func (b *book) page(op uint8) page {
	if b.pages[op].length == 0 {
		c := code.Of(op)
		plain, _ := code.Find(c.Name, c.Mode)
		b.pages[op] = page{Code: c, length: code.Length(op), plain: plain == op}
	}
	return b.pages[op]
}

// lines ranges over what l is as text, from its beginning on.
func (b *book) lines(at uint16, l []byte) iter.Seq[string] {
	return func(yield func(string) bool) {
		for done := 0; done < len(l); {
			line, length := b.line(at+uint16(done), l[done:])
			if !yield(line) {
				return
			}
			done += length
		}
	}
}

// line tells the first line of l, and how many bytes it has.
func (b *book) line(at uint16, l []byte) (string, int) {
	p := b.page(l[0])
	if !p.plain || p.length > len(l) {
		return Bytes(l[:1]), 1
	}
	var whole [3]byte
	copy(whole[:], l[:p.length])
	return show(b.forms, p.Code, word(whole[1], whole[2]), at), p.length
}

// word puts two bytes into one number, the lower one first.
func word(low, high uint8) uint16 {
	return uint16(high)<<8 | uint16(low)
}

// target is where a branch at an address goes.
func target(at uint16, distance uint8) uint16 {
	return at + 2 + uint16(int8(distance))
}
