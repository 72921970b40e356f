package script_test

import (
	"math/rand"
	"slices"
	"testing"

	"woodgrain/api"
	"woodgrain/script"
)

// Bytes that end anywhere: ahead of each part's end, at it, and one behind it.
func TestParseCut(t *testing.T) {
	b := build(sample("2K", 2048, events(3)...))
	for n := range len(b) + 1 {
		_, e := parses(t, b[:n])
		want := api.ErrShort
		if n >= 2319 && (n-2319)%4 == 0 {
			want = api.OK
		}
		if e != want {
			t.Errorf("P22.2: of the first %d bytes: %d", n, e)
		}
	}
	refused(t, "no bytes", nil, api.ErrShort)
	refused(t, "no bytes", []byte{}, api.ErrShort)
}

func TestParseImages(t *testing.T) {
	head := func(tag string, length int) []byte {
		return slices.Concat([]byte{byte(len(tag))}, []byte(tag), []byte{byte(length), byte(length >> 8), byte(length >> 16)})
	}
	for _, tag := range []string{"", "f8", "2K ", "F8S", "XX", "\x00\x00"} {
		b := head(tag, 2048)
		refused(t, "no such tag", b, api.ErrTag)
		refused(t, "no such tag, the image is there", append(b, make([]byte, 3000)...), api.ErrTag)
		refused(t, "no such tag, the length is not there", b[:len(b)-1], api.ErrShort)
		refused(t, "no such tag, nothing of the length is there", b[:len(b)-3], api.ErrShort)
	}
	for _, m := range mappers {
		b := head(m.tag, m.length)
		refused(t, "no image", b, api.ErrShort)
		refused(t, "the image's last byte is not there", append(b, make([]byte, m.length-1)...), api.ErrShort)
		refused(t, "the image is there, and nothing else", append(b, make([]byte, m.length)...), api.ErrShort)
		for _, length := range []int{0, 1, m.length - 1, m.length + 1, 1<<19 + 2048, 1<<24 - 1} {
			refused(t, "no such length, no image", head(m.tag, length), api.ErrSize)
			refused(t, "no such length", append(head(m.tag, length), make([]byte, 600000)...), api.ErrSize)
		}
	}
	refused(t, "a tag of 255 bytes", slices.Repeat([]byte{255}, 256+3), api.ErrTag)
	refused(t, "a tag of 255 bytes, cut", slices.Repeat([]byte{255}, 256+2), api.ErrShort)
	refused(t, "a tag of 255 bytes, cut", slices.Repeat([]byte{255}, 255), api.ErrShort)
	refused(t, "a length that is not there", []byte{2, '2', 'K', 0, 8}, api.ErrShort)
}

// The clock counts where it stands: ahead of the byte behind it, and of events.
func TestParseClock(t *testing.T) {
	for _, clock := range []uint8{228, 229, 255} {
		s := sample("2K", 2048, api.Event{Kind: 9})
		s.Power.Clock = clock
		b := build(s)
		for n := 2318; n <= len(b); n++ {
			refused(t, "a wrong clock", b[:n], api.ErrRange)
		}
		refused(t, "a clock that is not there", b[:2317], api.ErrShort)
	}
	s := sample("2K", 2048)
	refused(t, "the bus' byte is not there", build(s)[:2318], api.ErrShort)
}

func TestParseEvents(t *testing.T) {
	for kind := range 256 {
		s := sample("2K", 2048, api.Event{Clocks: 65535, Kind: uint8(kind), Value: 8})
		_, e := parses(t, build(s))
		if kind < 8 && e != api.OK || kind >= 8 && e != api.ErrKind {
			t.Errorf("P22.2: an event of kind %d: %d", kind, e)
		}
	}
	good, wrong := api.Event{Clocks: 1, Kind: 7}, api.Event{Clocks: 1, Kind: 8}
	b := build(sample("2K", 2048, good, wrong, good))
	refused(t, "a wrong event among three", b, api.ErrKind)
	refused(t, "a wrong event, and one that is cut", b[:len(b)-1], api.ErrKind)
	refused(t, "a wrong event", b[:len(b)-4], api.ErrKind)
	refused(t, "a wrong event that is cut", b[:len(b)-5], api.ErrShort)
}

// As many events as there may be, and one more.
func TestParseManyEvents(t *testing.T) {
	most := build(sample("2K", 2048, events(65536)...))
	if s, e := parses(t, most); e != api.OK || len(s.Events) != 65536 {
		t.Errorf("P22.2: 65536 events: %d, %d", len(s.Events), e)
	}
	for n := 1; n < 4; n++ {
		refused(t, "65536 events, and one that is cut", append(most, []byte{9, 9, 9}[:n]...), api.ErrShort)
	}
	refused(t, "65537 events", append(most, 1, 0, 7, 0), api.ErrFull)
	refused(t, "65537 events, the last one is wrong", append(most, 1, 0, 8, 0), api.ErrFull)
	refused(t, "65537 events, and one that is cut", append(most, 1, 0, 7, 0, 1), api.ErrFull)
	most[len(most)-2] = 8
	refused(t, "65537 events, the one ahead of it is wrong", append(most, 1, 0, 7, 0), api.ErrKind)
}

func TestParseLong(t *testing.T) {
	full := make([]byte, 1<<20+1)
	copy(full, build(sample("3F", 1<<19, events(65536)...)))
	refused(t, "2^20 bytes", full[:1<<20], api.ErrFull)
	refused(t, "2^20 bytes and one", full, api.ErrLong)
	clear(full)
	refused(t, "2^20 bytes of a script without a tag", full[:1<<20], api.ErrTag)
	refused(t, "2^20 bytes and one, without a tag", full, api.ErrLong)
	refused(t, "2^21 bytes", make([]byte, 1<<21), api.ErrLong)
}

// Any bytes are a script, or an error.
func TestParseAnyBytes(t *testing.T) {
	r := rand.New(rand.NewSource(2))
	errors := map[api.Errno]int{}
	for range 3000 {
		m := mappers[r.Intn(13)]
		b := build(sample(m.tag, m.length, events(r.Intn(5))...))
		for range r.Intn(3) {
			at := r.Intn(len(b))
			if r.Intn(2) == 0 { // most often where an error is to be had
				at = []int{r.Intn(9), len(b) - 1 - r.Intn(30)}[r.Intn(2)]
			}
			b[at] = byte(r.Intn(256))
		}
		if r.Intn(4) == 0 {
			b = b[:len(b)-r.Intn(len(b))]
		}
		_, e := parses(t, b)
		errors[e]++
	}
	for _, e := range []api.Errno{api.OK, api.ErrShort, api.ErrTag, api.ErrSize, api.ErrKind, api.ErrRange} {
		if errors[e] == 0 {
			t.Errorf("P22.2: no bytes with the error %d", e)
		}
	}
	for range 3000 {
		b := make([]byte, r.Intn(40))
		r.Read(b)
		if s, e := script.Parse(b); e == api.OK || !same(s, api.Script{}) {
			t.Errorf("P22.2: %X: %d", b, e)
		}
		parses(t, b)
	}
}
