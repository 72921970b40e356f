package script_test

import (
	"bytes"
	"slices"
	"testing"

	"woodgrain/api"
	"woodgrain/script"
)

// cutting is a mapper's tag, with an image's length that it has.
type cutting struct {
	tag    string
	length int
}

// mappers are all of them, with each of their lengths, but of 3F with some.
var mappers = []cutting{
	{"2K", 2048}, {"4K", 4096}, {"F8", 8192}, {"F8SC", 8192}, {"F6", 16384}, {"F6SC", 16384},
	{"F4", 32768}, {"F4SC", 32768}, {"E0", 8192}, {"FE", 8192},
	{"3F", 2048}, {"3F", 4096}, {"3F", 6144}, {"3F", 1<<19 - 2048}, {"3F", 1 << 19},
}

// fits is the error of a tag and a length.
func fits(tag string, length int) api.Errno {
	e := api.ErrTag
	for _, m := range mappers {
		if m.tag == tag {
			e = api.ErrSize
		}
	}
	if tag == "3F" && length > 0 && length <= 1<<19 && length%2048 == 0 || slices.Contains(mappers, cutting{tag, length}) {
		e = api.OK
	}
	return e
}

// sample is a script in which no two parts are alike.
func sample(tag string, length int, events ...api.Event) api.Script {
	s := api.Script{Tag: tag, Image: make([]byte, length), Events: events}
	for i := range s.Image {
		s.Image[i] = byte(i*7 + i>>8)
	}
	for i := range 128 {
		s.Power.Ram[i], s.Power.Extra[i] = byte(i+1), byte(200-i)
	}
	s.Power.Regs = api.Regs{A: 0xA1, X: 0xB2, Y: 0xC3, S: 0xD4, P: 0xE5, PC: 0xF617}
	s.Power.Clock, s.Power.Latch = 227, 0x99
	return s
}

// build are a script's bytes, as the chapter's words say them.
func build(s api.Script) []byte {
	n := len(s.Image)
	r := s.Power.Regs
	b := slices.Concat(
		[]byte{byte(len(s.Tag))}, []byte(s.Tag),
		[]byte{byte(n % 256), byte(n / 256 % 256), byte(n / 65536)}, s.Image,
		s.Power.Ram[:], s.Power.Extra[:],
		[]byte{r.A, r.X, r.Y, r.S, r.P, byte(r.PC % 256), byte(r.PC / 256), s.Power.Clock, s.Power.Latch},
	)
	for _, v := range s.Events {
		b = append(b, byte(v.Clocks%256), byte(v.Clocks/256), v.Kind, v.Value)
	}
	return b
}

// parse is the script of some bytes, as the chapter's words say it.
func parse(b []byte) (s api.Script, e api.Errno) {
	var none api.Script
	if len(b) > 1<<20 {
		return none, api.ErrLong
	}
	at := 0
	has := func(n int) bool {
		at += n
		return at <= len(b)
	}
	if !has(1) || !has(int(b[0])) {
		return none, api.ErrShort
	}
	s.Tag = string(b[1:at])
	if !has(3) {
		return none, api.ErrShort
	}
	length := int(b[at-3]) + int(b[at-2])*256 + int(b[at-1])*65536
	if e := fits(s.Tag, length); e != api.OK {
		return none, e
	}
	if !has(length) {
		return none, api.ErrShort
	}
	s.Image = b[at-length : at]
	if !has(128+128+7) || !has(1) {
		return none, api.ErrShort
	}
	p := b[at-264:]
	s.Power = api.Power{
		Ram: [128]uint8(p), Extra: [128]uint8(p[128:]), Clock: p[263],
		Regs: api.Regs{A: p[256], X: p[257], Y: p[258], S: p[259], P: p[260], PC: uint16(p[261]) + uint16(p[262])*256},
	}
	if s.Power.Clock > 227 {
		return none, api.ErrRange
	}
	if !has(1) {
		return none, api.ErrShort
	}
	s.Power.Latch = b[at-1]
	for at < len(b) {
		if !has(4) {
			return none, api.ErrShort
		}
		v := b[at-4:]
		if len(s.Events) == 65536 {
			return none, api.ErrFull
		}
		if v[2] > 7 {
			return none, api.ErrKind
		}
		s.Events = append(s.Events, api.Event{Clocks: int(v[0]) + int(v[1])*256, Kind: v[2], Value: v[3]})
	}
	return s, api.OK
}

func same(a, b api.Script) bool {
	return a.Tag == b.Tag && bytes.Equal(a.Image, b.Image) && a.Power == b.Power && slices.Equal(a.Events, b.Events)
}

// parses holds what some bytes are against what they should be.
func parses(t *testing.T, b []byte) (api.Script, api.Errno) {
	t.Helper()
	s, e := script.Parse(b)
	want, wrong := parse(b)
	if e != wrong || !same(s, want) {
		t.Fatalf("P22.2: Parse of %d bytes: %d, not %d (the script is the same: %v)", len(b), e, wrong, same(s, want))
	}
	if e == api.OK {
		if again, e := script.Build(s); e != api.OK || !bytes.Equal(again, b) {
			t.Fatalf("P22.4: Build of what was parsed of %d bytes: %d, %d bytes", len(b), e, len(again))
		}
	}
	return s, e
}

// refused asks Parse for an error.
func refused(t *testing.T, what string, b []byte, want api.Errno) {
	t.Helper()
	if s, e := script.Parse(b); e != want || !same(s, api.Script{}) {
		t.Errorf("P22.2: Parse, %s: %d, not %d", what, e, want)
	}
	parses(t, b)
}
