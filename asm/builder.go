package asm

import (
	"strings"

	"woodgrain/api"
	"woodgrain/code"
)

// topAddress is the first one at which no byte may stand.
const topAddress = 1 << 16

// wrong is what a line gives up with.
type wrong api.Errno

// builder is how far a source was put together.
type builder struct {
	mnemonics []string // in order
	line      int      // the number of the one that is gone through
	at        int      // the address at which the next byte will stand
	names     map[string]meaning
	said      []Name // the names in the order of their lines
	pieces    []piece
	start     int
	bytes     []byte
}

func newBuilder() *builder {
	return &builder{mnemonics: code.Names(), names: map[string]meaning{}}
}

// attempt goes through the lines twice; of a wrong one, whose number stays, it
// tells the error.
func (b *builder) attempt(source string) (e api.Errno) {
	defer func() {
		if r := recover(); r != nil {
			fault, ours := r.(wrong)
			if !ours {
				panic(r)
			}
			e = api.Errno(fault)
		}
	}()
	b.read(source)
	b.makeBytes()
	return api.OK
}

// read is the first going-through: what each line says, and where its bytes
// will stand.
func (b *builder) read(source string) {
	for i, line := range strings.Split(source, "\n") {
		b.line = i + 1
		b.readLine(line)
	}
}

func (b *builder) readLine(line string) {
	line, _, _ = strings.Cut(line, ";")
	line = trim(line)
	if name, behind, there := strings.Cut(line, ":"); there {
		b.say(name, meaning{number: b.at, wide: true})
		if strings.Contains(behind, ":") {
			panic(wrong(api.ErrText))
		}
		line = trim(behind)
	}
	if name, text, there := strings.Cut(line, "="); there {
		b.equate(trim(name), text)
		return
	}
	word, text := cutWord(line)
	switch word {
	case "":
	case ".org":
		b.org(text)
	case ".byte":
		b.add(piece{as: oneByte, values: readValues(text)})
	case ".word":
		b.add(piece{as: twoBytes, values: readValues(text)})
	default:
		b.mnemonic(word, text)
	}
}

// equate reads the value first: its errors are met ahead of the name's.
func (b *builder) equate(name, text string) {
	v := readValue(squeeze(text))
	b.say(name, meaning{number: b.number(v), wide: b.wide(v)})
}

// org needs no bytes between: those of the next piece, or the end, are filled
// up to.
func (b *builder) org(text string) {
	to := b.number(readValue(squeeze(text)))
	if to < b.at {
		panic(wrong(api.ErrRange))
	}
	b.at = to
}

// say keeps a name.
func (b *builder) say(name string, m meaning) {
	if !isName(name) {
		panic(wrong(api.ErrText))
	}
	if _, twice := b.names[name]; twice {
		panic(wrong(api.ErrTwice))
	}
	if len(b.said) == api.MaxNames {
		panic(wrong(api.ErrFull))
	}
	b.names[name] = m
	b.said = append(b.said, Name{Name: strings.Clone(name), Value: m.number})
}

// trim takes the blanks and tabs at the ends away.
func trim(text string) string {
	return strings.Trim(text, " \t")
}

// squeeze takes all blanks and tabs away.
func squeeze(text string) string {
	return strings.ReplaceAll(strings.ReplaceAll(text, " ", ""), "\t", "")
}

// cutWord tells what stands ahead of the first blank or tab, and what behind.
func cutWord(line string) (word, text string) {
	if i := strings.IndexAny(line, " \t"); i >= 0 {
		return line[:i], line[i:]
	}
	return line, ""
}
