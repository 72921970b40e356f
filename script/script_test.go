package script_test

import (
	"bytes"
	"math"
	"math/rand"
	"slices"
	"testing"

	"woodgrain/api"
	"woodgrain/script"
)

// checked asks Check and Build for an error.
func checked(t *testing.T, what string, s api.Script, want api.Errno) {
	t.Helper()
	if e := script.Check(s); e != want {
		t.Errorf("P22.1: Check, %s: %d, not %d", what, e, want)
	}
	b, e := script.Build(s)
	if e != want {
		t.Errorf("P22.1: Build, %s: %d, not %d", what, e, want)
	}
	if want != api.OK {
		if len(b) != 0 {
			t.Errorf("R2: Build, %s: %d bytes", what, len(b))
		}
		return
	}
	if !bytes.Equal(b, build(s)) {
		t.Errorf("P22.1: Build, %s: other bytes", what)
	}
	if again, e := script.Parse(b); e != api.OK || !same(again, s) {
		t.Errorf("P22.4: Parse of Build, %s: %d", what, e)
	}
}

func events(n int) []api.Event {
	all := make([]api.Event, n)
	for i := range all {
		all[i] = api.Event{Clocks: i, Kind: uint8(i % 8), Value: uint8(i / 8)}
	}
	return all
}

func TestExamples(t *testing.T) {
	b, e := script.Build(sample("2K", 2048))
	if len(b) != 2319 || e != api.OK {
		t.Fatalf("P22.1: %d bytes, %d", len(b), e)
	}
	refused(t, "one byte fewer", b[:2318], api.ErrShort)
	refused(t, "one byte more", append(b[:2319:2319], 0), api.ErrShort)
	s, e := parses(t, append(b[:2319:2319], 0x2C, 0x01, 7, 0x80))
	if e != api.OK || !slices.Equal(s.Events, []api.Event{{Clocks: 300, Kind: 7, Value: 0x80}}) {
		t.Errorf("P22.2: four bytes more: %v, %d", s.Events, e)
	}
}

func TestEachMapper(t *testing.T) {
	for _, m := range mappers {
		for n := range 4 {
			s := sample(m.tag, m.length, events(n)...)
			checked(t, m.tag, s, api.OK)
			parses(t, build(s))
		}
	}
}

// Where each part stands among the bytes.
func TestBytes(t *testing.T) {
	s := sample("F6SC", 16384, api.Event{Clocks: 0x1234, Kind: 5, Value: 0x77}, api.Event{Clocks: 3, Kind: 7, Value: 2})
	b, _ := script.Build(s)
	if len(b) != 1+4+3+16384+256+9+8 {
		t.Fatalf("P22.1: %d bytes", len(b))
	}
	head, tail := []byte{4, 'F', '6', 'S', 'C', 0x00, 0x40, 0x00}, []byte{
		0xA1, 0xB2, 0xC3, 0xD4, 0xE5, 0x17, 0xF6, 227, 0x99,
		0x34, 0x12, 5, 0x77, 3, 0, 7, 2,
	}
	if !bytes.Equal(b[:8], head) || !bytes.Equal(b[len(b)-17:], tail) {
		t.Errorf("P22.1: it begins with %X, and ends with %X", b[:8], b[len(b)-17:])
	}
	rest := b[8 : len(b)-17]
	if !bytes.Equal(rest[:16384], s.Image) || !bytes.Equal(rest[16384:16512], s.Power.Ram[:]) || !bytes.Equal(rest[16512:], s.Power.Extra[:]) {
		t.Error("P22.1: the image, the RAM or the extra RAM stands elsewhere")
	}
	b, _ = script.Build(sample("3F", 1<<19))
	if !bytes.Equal(b[:6], []byte{2, '3', 'F', 0, 0, 8}) {
		t.Errorf("P22.1: it begins with %X", b[:6])
	}
}

func TestImages(t *testing.T) {
	for _, tag := range []string{"", "2k", "2K ", "2", "F8S", "f8", "XX", "\x00", "F8SCF8SC", string(make([]byte, 300))} {
		checked(t, tag, sample(tag, 2048), api.ErrTag)
		checked(t, tag, api.Script{Tag: tag}, api.ErrTag)
	}
	for _, m := range mappers {
		for _, length := range []int{0, 1, 2047, 2048, 2049, 4096, 6144, 8192, 16384, 32768, 1 << 19, 1<<19 + 1, 1<<19 + 2048, 1 << 20} {
			checked(t, m.tag, sample(m.tag, length), fits(m.tag, length))
		}
	}
	checked(t, "no script at all", api.Script{}, api.ErrTag)
}

func TestClock(t *testing.T) {
	for clock := range 256 {
		s := sample("2K", 2048)
		s.Power.Clock = uint8(clock)
		want := api.OK
		if clock >= 228 {
			want = api.ErrRange
		}
		checked(t, "the clock", s, want)
		if _, e := parses(t, build(s)); e != want {
			t.Errorf("P22.2: the clock %d: %d", clock, e)
		}
	}
}

func TestEvents(t *testing.T) {
	for _, n := range []int{0, 1, 65535, 65536} {
		checked(t, "events", sample("2K", 2048, events(n)...), api.OK)
	}
	for _, n := range []int{65537, 65538, 1 << 17} {
		checked(t, "too many events", sample("2K", 2048, events(n)...), api.ErrFull)
	}
	checked(t, "as much as there may be", sample("3F", 1<<19, events(65536)...), api.OK)
	for at := range 3 {
		with := func(clocks int, kind uint8) api.Script {
			l := events(3)
			l[at] = api.Event{Clocks: clocks, Kind: kind, Value: 0xFF}
			return sample("4K", 4096, l...)
		}
		for _, clocks := range []int{0, 1, 255, 256, 65534, 65535} {
			for kind := range uint8(8) {
				checked(t, "an event", with(clocks, kind), api.OK)
			}
			for _, kind := range []uint8{8, 9, 16, 128, 255} {
				checked(t, "a wrong kind", with(clocks, kind), api.ErrKind)
			}
		}
		for _, clocks := range []int{-1, -65536, 65536, 65537, 1 << 32, math.MinInt, math.MaxInt} {
			for _, kind := range []uint8{0, 7, 8, 255} {
				checked(t, "wrong clocks", with(clocks, kind), api.ErrRange)
			}
		}
	}
}

// Of several errors the one that is named first counts.
func TestOrderOfErrors(t *testing.T) {
	late, strange := api.Event{Clocks: 65536}, api.Event{Kind: 8}
	many := events(65537)
	many[0], many[1] = late, strange
	s := sample("xx", 2047, many...)
	s.Power.Clock = 228
	checked(t, "all of them", s, api.ErrTag)
	s.Tag = "2K"
	checked(t, "without the tag's", s, api.ErrSize)
	s.Image = make([]byte, 2048)
	checked(t, "without the image's", s, api.ErrRange)
	s.Power.Clock = 0
	checked(t, "without the clock's", s, api.ErrFull)
	s.Events = many[:65536]
	checked(t, "late, then strange", s, api.ErrRange)
	s.Events = []api.Event{strange, late}
	checked(t, "strange, then late", s, api.ErrKind)
	s.Events = []api.Event{{}, {Clocks: -1, Kind: 8}, strange}
	checked(t, "an event with both", s, api.ErrRange)
	s.Power.Clock = 228
	s.Events = []api.Event{strange}
	checked(t, "the clock, and an event", s, api.ErrRange)
}

// What is handed in stays as it is; what is handed out is new.
func TestNothingIsShared(t *testing.T) {
	s := sample("F8", 8192, append(events(4), late())[:4]...)
	before := sample("F8", 8192, events(4)...)
	b, _ := script.Build(s)
	times := script.Times(s)
	want := slices.Clone(b)
	clear(b[:cap(b)])
	clear(times[:cap(times)])
	if !same(s, before) || s.Events[:5][4] != late() {
		t.Error("R4: a script is changed")
	}
	b, _ = script.Build(s)
	if !bytes.Equal(b, want) {
		t.Error("R4: Build hands out what it keeps")
	}
	b = append(b, 1, 2, 3, 4)
	x, _ := script.Parse(b[:len(b)-4])
	y, _ := script.Parse(b[:len(b)-4])
	if !bytes.Equal(b[len(b)-4:], []byte{1, 2, 3, 4}) || !bytes.Equal(b[:len(b)-4], want) {
		t.Error("R4: Parse changes what is handed in")
	}
	clear(b)
	if !same(x, before) {
		t.Error("R4: Parse keeps what is handed in")
	}
	clear(x.Image[:cap(x.Image)])
	clear(x.Events[:cap(x.Events)])
	if !same(y, before) {
		t.Error("R4: what Parse hands out is shared")
	}
}

func late() api.Event { return api.Event{Clocks: 77777, Kind: 99, Value: 1} }

func TestTimes(t *testing.T) {
	for _, x := range []struct{ clocks, times []int }{
		{nil, nil},
		{[]int{0}, []int{0}},
		{[]int{300, 5, 0, 0, 7}, []int{300, 305, 305, 305, 312}},
		{[]int{65535, 65535, 1}, []int{65535, 131070, 131071}},
		{[]int{65536, 65537, math.MaxInt, 1 << 40, 2}, []int{65535, 131070, 196605, 262140, 262142}},
		{[]int{9, -1, -65536, math.MinInt, 4}, []int{9, 9, 9, 9, 13}},
	} {
		var s api.Script // that may not be, as it has no tag
		for i, n := range x.clocks {
			s.Events = append(s.Events, api.Event{Clocks: n, Kind: uint8(200 + i)})
		}
		if got := script.Times(s); !slices.Equal(got, x.times) {
			t.Errorf("P22.3: of %v: %v, not %v", x.clocks, got, x.times)
		}
	}
	s := api.Script{Events: slices.Repeat([]api.Event{{Clocks: 70000}}, 70000)}
	times := script.Times(s)
	if len(times) != 70000 || times[65536] != 65537*65535 || times[69999] != 70000*65535 {
		t.Errorf("P22.3: of 70000 events: %d", len(times))
	}
}

// Scripts of all kinds, there and back.
func TestThereAndBack(t *testing.T) {
	r := rand.New(rand.NewSource(1))
	for range 300 {
		m := mappers[r.Intn(13)]
		s := sample(m.tag, m.length)
		r.Read(s.Image)
		r.Read(s.Power.Ram[:])
		r.Read(s.Power.Extra[:])
		s.Power.Regs = api.Regs{A: uint8(r.Intn(256)), X: uint8(r.Intn(256)), Y: uint8(r.Intn(256)), S: uint8(r.Intn(256)), P: uint8(r.Intn(256)), PC: uint16(r.Intn(65536))}
		s.Power.Clock, s.Power.Latch = uint8(r.Intn(228)), uint8(r.Intn(256))
		for range r.Intn(20) {
			s.Events = append(s.Events, api.Event{Clocks: r.Intn(65536), Kind: uint8(r.Intn(8)), Value: uint8(r.Intn(256))})
		}
		checked(t, "any script", s, api.OK)
	}
}
