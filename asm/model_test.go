package asm_test

import (
	"fmt"
	"math/rand"
	"regexp"
	"slices"
	"strconv"
	"strings"
	"testing"

	"woodgrain/api"
	"woodgrain/asm"
	"woodgrain/code"
)

// The model puts a source together by patterns, and goes over the text of each
// line twice.

var (
	aName   = regexp.MustCompile(`^[A-Za-z_][A-Za-z_0-9]{0,31}$`)
	aHex    = regexp.MustCompile(`^\$[0-9A-Fa-f]{1,4}$`)
	aNumber = regexp.MustCompile(`^[0-9]{1,5}$`)
	forms   = []struct {
		form   *regexp.Regexp
		narrow code.Mode
		broad  code.Mode
	}{
		{regexp.MustCompile(`^()$`), code.Imp, code.Imp},
		{regexp.MustCompile(`^(A)$`), code.Acc, code.Acc},
		{regexp.MustCompile(`^#([^,()]*)$`), code.Imm, code.Imm},
		{regexp.MustCompile(`^\(([^,()]*),X\)$`), code.Izx, code.Izx},
		{regexp.MustCompile(`^\(([^,()]*)\),Y$`), code.Izy, code.Izy},
		{regexp.MustCompile(`^\(([^,()]*)\)$`), code.Ind, code.Ind},
		{regexp.MustCompile(`^([^,()#]*),X$`), code.Zpx, code.Abx},
		{regexp.MustCompile(`^([^,()#]*),Y$`), code.Zpy, code.Aby},
		{regexp.MustCompile(`^([^,()#]*)$`), code.Zp, code.Abs},
	}
)

type told struct {
	value int
	wide  bool
}

// model is a source of which so much was gone over.
type model struct {
	known  map[string]told
	order  []asm.Name
	modes  map[int]code.Mode // by lines: what the first going-over chose
	memory map[int]byte
	low    int
	at     int
	second bool
}

func isName(s string) bool {
	return aName.MatchString(s) && s != "A" && s != "X" && s != "Y"
}

// value tells a value's error, whether its name is known, and what it is.
func (m *model) value(s string) (e api.Errno, known bool, v told) {
	bare := strings.TrimLeft(s, "<>")
	if len(s)-len(bare) > 1 {
		return api.ErrText, false, told{}
	}
	known = true
	switch {
	case aHex.MatchString(bare):
		n, _ := strconv.ParseInt(bare[1:], 16, 32)
		v = told{int(n), len(bare) > 3}
	case aNumber.MatchString(bare):
		n, _ := strconv.Atoi(bare)
		if n > 65535 {
			return api.ErrText, false, told{}
		}
		v = told{n, n > 255}
	case isName(bare):
		if v, known = m.known[bare]; !known {
			v.wide = true
		}
	default:
		return api.ErrText, false, told{}
	}
	if s[0] == '<' {
		v = told{v.value % 256, false}
	}
	if s[0] == '>' {
		v = told{v.value / 256 % 256, false}
	}
	return api.OK, known, v
}

func (m *model) say(name string, v told) api.Errno {
	if m.second {
		return api.OK
	}
	if !isName(name) {
		return api.ErrText
	}
	if _, twice := m.known[name]; twice {
		return api.ErrTwice
	}
	if len(m.order) >= 1024 {
		return api.ErrFull
	}
	m.known[name] = v
	m.order = append(m.order, asm.Name{Name: name, Value: v.value})
	return api.OK
}

func noBlanks(s string) string { return strings.NewReplacer(" ", "", "\t", "").Replace(s) }

func (m *model) line(number int, s string) api.Errno {
	if i := strings.IndexByte(s, ';'); i >= 0 {
		s = s[:i]
	}
	s = strings.Trim(s, " \t")
	if i := strings.IndexByte(s, ':'); i >= 0 {
		if e := m.say(s[:i], told{m.at, true}); e != api.OK {
			return e
		}
		s = strings.Trim(s[i+1:], " \t")
		if strings.IndexByte(s, ':') >= 0 {
			return api.ErrText
		}
	}
	if i := strings.IndexByte(s, '='); i >= 0 {
		e, known, v := m.value(noBlanks(s[i+1:]))
		if e != api.OK {
			return e
		}
		if !known {
			return api.ErrName
		}
		return m.say(strings.Trim(s[:i], " \t"), v)
	}
	if s == "" {
		return api.OK
	}
	word, rest := s, ""
	if i := strings.IndexAny(s, " \t"); i >= 0 {
		word, rest = s[:i], noBlanks(s[i:])
	}
	switch word {
	case ".org":
		return m.org(rest)
	case ".byte":
		return m.values(strings.Split(rest, ","), 1)
	case ".word":
		return m.values(strings.Split(rest, ","), 2)
	}
	return m.code(number, word, rest)
}

func (m *model) org(s string) api.Errno {
	e, known, v := m.value(s)
	switch {
	case e != api.OK:
		return e
	case !known:
		return api.ErrName
	case v.value < m.at:
		return api.ErrRange
	}
	for ; m.low >= 0 && m.at < v.value; m.at++ {
		m.memory[m.at] = 0
	}
	m.at = v.value
	return api.OK
}

func (m *model) values(l []string, size int) api.Errno {
	for _, s := range l {
		if e, _, _ := m.value(s); e != api.OK {
			return e
		}
	}
	if m.at+size*len(l) > 65536 {
		return api.ErrLong
	}
	for _, s := range l {
		if e := m.put(s, size); e != api.OK {
			return e
		}
	}
	return api.OK
}

// put sets a value of so many bytes.
func (m *model) put(s string, size int) api.Errno {
	_, known, v := m.value(s)
	if m.second && !known {
		return api.ErrName
	}
	if m.second && size == 1 && v.value > 255 {
		return api.ErrRange
	}
	m.set(v.value % 256)
	if size == 2 {
		m.set(v.value / 256 % 256)
	}
	return api.OK
}

func (m *model) set(n int) {
	if m.low < 0 {
		m.low = m.at
	}
	m.memory[m.at] = byte(n)
	m.at++
}

func (m *model) code(number int, name, rest string) api.Errno {
	if !slices.Contains(code.Names(), name) {
		return api.ErrName
	}
	at := slices.IndexFunc(forms, func(f struct {
		form          *regexp.Regexp
		narrow, broad code.Mode
	}) bool {
		return f.form.MatchString(rest)
	})
	if at < 0 {
		return api.ErrText
	}
	inner := forms[at].form.FindStringSubmatch(rest)[1]
	if at > 1 {
		if e, _, _ := m.value(inner); e != api.OK {
			return e
		}
	}
	if !m.second {
		m.modes[number] = m.mode(name, inner, forms[at].narrow, forms[at].broad)
	}
	op, there := code.Find(name, m.modes[number])
	if !there {
		return api.ErrMode
	}
	length := code.Length(op)
	if m.at+length > 65536 {
		return api.ErrLong
	}
	m.set(int(op))
	switch {
	case m.modes[number] == code.Rel:
		return m.branch(inner)
	case length > 1:
		return m.put(inner, length-1)
	}
	return api.OK
}

func (m *model) mode(name, inner string, narrow, broad code.Mode) code.Mode {
	if _, branch := code.Find(name, code.Rel); branch && narrow == code.Zp {
		return code.Rel
	}
	if narrow == broad {
		return narrow
	}
	_, _, v := m.value(inner)
	if _, there := code.Find(name, narrow); v.wide || !there {
		return broad
	}
	return narrow
}

// branch tries all 256 distances: one of them may go there.
func (m *model) branch(s string) api.Errno {
	_, known, v := m.value(s)
	if !m.second {
		m.set(0)
		return api.OK
	}
	if !known {
		return api.ErrName
	}
	for d := -128; d < 128; d++ {
		if (m.at+1+d+65536)%65536 == v.value%65536 {
			m.set((d + 256) % 256)
			return api.OK
		}
	}
	return api.ErrFar
}

func modelled(source string) (p asm.Program, line int, e api.Errno) {
	m := &model{known: map[string]told{}, modes: map[int]code.Mode{}}
	for _, second := range []bool{false, true} {
		m.second, m.at, m.low, m.memory = second, 0, -1, map[int]byte{}
		for i, s := range strings.Split(source, "\n") {
			if e := m.line(i+1, s); e != api.OK {
				return asm.Program{}, i + 1, e
			}
		}
	}
	p.Names = m.order
	if m.low >= 0 {
		p.Start = m.low
		for a := m.low; a < m.at; a++ {
			p.Bytes = append(p.Bytes, m.memory[a])
		}
	}
	return p, 0, api.OK
}

func one(r *rand.Rand, l ...string) string { return l[r.Intn(len(l))] }

func aValue(r *rand.Rand) string {
	part := ""
	if r.Intn(5) == 0 {
		part = one(r, "<", ">")
	}
	switch r.Intn(5) {
	case 0:
		return part + fmt.Sprintf("$%0*X", r.Intn(4)+1, r.Intn(256))
	case 1:
		return part + fmt.Sprint(r.Intn(300))
	case 2:
		return part + fmt.Sprintf("$%x", r.Intn(65536))
	}
	return part + one(r, "a", "b", "c", "d", "_e1", "BNE")
}

func anOperand(r *rand.Rand) string {
	v := aValue(r)
	return fmt.Sprintf(one(r, "%.0s", "A%.0s", "#%s", "(%s,X)", "(%s),Y", "(%s)", "%s,X", "%s,Y", "%s", "%s", "%s"), v)
}

// aCode is a mnemonic with an operand, often of a mode that it has.
func aCode(r *rand.Rand) string {
	c := code.Of(uint8(r.Intn(256)))
	if r.Intn(6) == 0 {
		return c.Name + " " + anOperand(r)
	}
	form := map[code.Mode]string{
		code.Imp: "%.0s", code.Acc: " A%.0s", code.Imm: " #%s", code.Zp: " %s", code.Zpx: " %s,X", code.Zpy: "\t%s,Y",
		code.Abs: " %s", code.Abx: " %s,X", code.Aby: " %s , Y", code.Izx: " (%s,X)", code.Izy: "  (%s),Y", code.Rel: " %s", code.Ind: " (%s)",
	}[c.Mode]
	return c.Name + fmt.Sprintf(form, aValue(r))
}

func aLine(r *rand.Rand, address *int) string {
	label := ""
	if r.Intn(4) == 0 {
		label = one(r, "a", "b", "c", "d", "_e1", "BNE") + one(r, ":", ": ")
	}
	switch r.Intn(8) {
	case 0:
		*address += r.Intn(60)
		return label + fmt.Sprintf(".org $%X", *address%65536)
	case 1:
		return label + ".byte " + aValue(r) + one(r, "", ","+aValue(r))
	case 2:
		return label + ".word " + aValue(r) + one(r, "", " , "+aValue(r))
	case 3:
		return label + one(r, "a", "b", "c", "d", "_e1", "BNE") + one(r, "=", " = ") + aValue(r)
	case 4:
		return label + one(r, "", ";x", " ; : = x")
	}
	return label + aCode(r)
}

// spoilt is a text with one sign more, less, or another one.
func spoilt(r *rand.Rand, s string) string {
	signs := []string{" ", "\t", ":", "=", ",", "(", ")", "#", "$", "<", ">", ".", ";", "\n", "A", "X", "Y", "a", "0", "9", "_", "-", "\r", "\x00", "\xFF"}
	i := r.Intn(len(s) + 1)
	switch r.Intn(3) {
	case 0:
		return s[:i] + one(r, signs...) + s[i:]
	case 1:
		return s[:i] + s[min(i+1, len(s)):]
	}
	return s[:i] + one(r, signs...) + s[min(i+1, len(s)):]
}

func aSource(r *rand.Rand) string {
	address := []int{0, 0xF000, 0xFFF0, 0xFFFC, r.Intn(65536)}[r.Intn(5)]
	lines := []string{fmt.Sprintf(".org %d", address)}
	for range r.Intn(8) {
		lines = append(lines, aLine(r, &address))
	}
	s := strings.Join(lines, "\n")
	for r.Intn(3) == 0 {
		s = spoilt(r, s)
	}
	return s
}

func TestBuildIsItsModel(t *testing.T) {
	r := rand.New(rand.NewSource(5))
	seen := map[api.Errno]int{}
	for range 30000 {
		source := aSource(r)
		want, wantLine, wantE := modelled(source)
		got, line, e := asm.Build(source)
		if line != wantLine || e != wantE || got.Start != want.Start || !slices.Equal(got.Bytes, want.Bytes) || !slices.Equal(got.Names, want.Names) {
			t.Fatalf("P14.1: %q: %v, line %d, error %d, not %v, line %d, error %d", source, got, line, e, want, wantLine, wantE)
		}
		seen[e]++
	}
	for _, e := range []api.Errno{api.OK, api.ErrText, api.ErrName, api.ErrTwice, api.ErrMode, api.ErrRange, api.ErrLong, api.ErrFar} {
		if seen[e] < 100 {
			t.Errorf("P14.1: only %d sources have the error %d", seen[e], e)
		}
	}
}
