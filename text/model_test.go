package text_test

import (
	"fmt"
	"math/rand"
	"slices"
	"strings"
	"testing"

	"woodgrain/code"
	"woodgrain/text"
)

// written is a mode's form for fmt: what it tells of the name and a number.
var written = map[code.Mode]string{
	code.Imm: "%s #$%02X", code.Zp: "%s $%02X", code.Zpx: "%s $%02X,X", code.Zpy: "%s $%02X,Y",
	code.Abs: "%s $%04X", code.Abx: "%s $%04X,X", code.Aby: "%s $%04X,Y",
	code.Izx: "%s ($%02X,X)", code.Izy: "%s ($%02X),Y", code.Rel: "%s $%04X", code.Ind: "%s ($%04X)",
}

// shown is a code as the chapter's words tell it.
func shown(op, a, b, at int) string {
	c := code.Of(uint8(op))
	switch {
	case c.Mode == code.Imp:
		return c.Name
	case c.Mode == code.Acc:
		return c.Name + " A"
	case c.Mode == code.Rel && a < 128:
		return fmt.Sprintf(written[c.Mode], c.Name, (at+2+a)%65536)
	case c.Mode == code.Rel:
		return fmt.Sprintf(written[c.Mode], c.Name, (at+2+a-256+65536)%65536)
	case code.Length(uint8(op)) == 3:
		return fmt.Sprintf(written[c.Mode], c.Name, a+256*b)
	}
	return fmt.Sprintf(written[c.Mode], c.Name, a)
}

func TestShowIsItsModel(t *testing.T) {
	for op := range 256 {
		addresses := []int{0, 1, 0x7E, 0x80, 0x7FFF, 0xF000, 0xFF7F, 0xFF80, 0xFFFD, 0xFFFE, 0xFFFF}
		if code.Of(uint8(op)).Mode != code.Rel {
			addresses = []int{op * 257}
		}
		for a := range 256 {
			for _, at := range addresses {
				b := (a*7 + op) % 256
				if got, want := text.Show(uint8(op), uint8(a), uint8(b), uint16(at)), shown(op, a, b, at); got != want {
					t.Fatalf("P13.1: Show(%02X, %02X, %02X, %04X): %q, not %q", op, a, b, at, got, want)
				}
			}
		}
	}
}

func TestHexIsItsModel(t *testing.T) {
	r := rand.New(rand.NewSource(1))
	for range 20000 {
		n, digits := int(r.Uint64()>>r.Intn(64)), r.Intn(8)+1
		want := fmt.Sprintf("%016X", max(n, 0))[16-digits:]
		if got := text.Hex(n, digits); got != want {
			t.Fatalf("P13.1: Hex(%d, %d): %q, not %q", n, digits, got, want)
		}
	}
}

// someBytes are codes and others, with addresses near to at in them, so that
// jumps often stay within.
func someBytes(r *rand.Rand, at, n int) []byte {
	jumps := []byte{0x4C, 0x20, 0x6C, 0x60, 0x40, 0x00, 0x02, 0xD0, 0xF0, 0x10}
	l := make([]byte, n)
	for i := range l {
		switch r.Intn(4) {
		case 0:
			l[i] = jumps[r.Intn(len(jumps))]
		case 1:
			l[i] = byte((at + r.Intn(n)) >> (8 * r.Intn(2)))
		case 2:
			l[i] = byte(r.Intn(40) - 20)
		default:
			l[i] = byte(r.Intn(256))
		}
	}
	return l
}

// listed is what the chapter's words tell of bytes: each line, and the bytes of
// which it is made.
func listed(at int, l []byte) (lines []string, parts [][]byte) {
	for i := 0; i < len(l); {
		c, n := code.Of(l[i]), code.Length(l[i])
		plain, _ := code.Find(c.Name, c.Mode)
		if plain != l[i] || i+n > len(l) {
			lines, parts = append(lines, fmt.Sprintf(".byte $%02X", l[i])), append(parts, l[i:i+1])
			i++
			continue
		}
		padded := append(slices.Clone(l[i:i+n]), 0, 0)
		lines, parts = append(lines, shown(int(l[i]), int(padded[1]), int(padded[2]), (at+i)%65536)), append(parts, l[i:i+n])
		i += n
	}
	return lines, parts
}

func TestListIsItsModel(t *testing.T) {
	r := rand.New(rand.NewSource(2))
	for range 3000 {
		at := r.Intn(65536)
		if r.Intn(3) == 0 {
			at = 65535 - r.Intn(20)
		}
		l := someBytes(r, at, r.Intn(40))
		kept := slices.Clone(l)
		got := text.List(uint16(at), l)
		want, parts := listed(at, l)
		if !slices.Equal(got, want) {
			t.Fatalf("P13.2: List(%04X, %x): %q, not %q", at, l, got, want)
		}
		if !slices.Equal(slices.Concat(parts...), l) || !slices.Equal(l, kept) {
			t.Fatalf("P13.4: the lines' codes and bytes are not those of %x", kept)
		}
	}
}

// A list of all 256 codes, each with two bytes behind it.
func TestListTellsEachCode(t *testing.T) {
	for op := range 256 {
		l := []byte{byte(op), 0x60, 0x60}
		want, _ := listed(0x1234, l)
		if got := text.List(0x1234, l); !slices.Equal(got, want) {
			t.Errorf("P13.2: List of %x: %q, not %q", l, got, want)
		}
	}
}

// goesOn tells at which addresses the code at one may go on.
func goesOn(at int, l []byte) []int {
	c := code.Of(l[0])
	behind := (at + code.Length(l[0])) % 65536
	switch {
	case strings.Contains(" RTS RTI BRK JAM ", " "+c.Name+" "):
		return nil
	case c.Name == "JMP" && c.Mode == code.Ind:
		return nil
	case c.Name == "JMP":
		return []int{int(l[1]) + 256*int(l[2])}
	case c.Name == "JSR":
		return []int{int(l[1]) + 256*int(l[2]), behind}
	case c.Mode == code.Rel:
		return []int{(at + 2 + int(int8(l[1])) + 65536) % 65536, behind}
	}
	return []int{behind}
}

// reachedBytes goes over all addresses again and again, till no more codes are
// reached.
func reachedBytes(at int, l []byte, entries []uint16) []bool {
	whole := func(a int) bool {
		return a >= at && a-at < len(l) && a-at+code.Length(l[a-at]) <= len(l) && a+code.Length(l[a-at]) <= 65536
	}
	begins := map[int]bool{}
	for _, a := range entries {
		if whole(int(a)) {
			begins[int(a)] = true
		}
	}
	for before := -1; before != len(begins); {
		before = len(begins)
		for i := range l {
			if !begins[at+i] {
				continue
			}
			for _, a := range goesOn(at+i, l[i:]) {
				if whole(a) {
					begins[a] = true
				}
			}
		}
	}
	out := make([]bool, len(l))
	for a := range begins {
		for i := range code.Length(l[a-at]) {
			out[a-at+i] = true
		}
	}
	return out
}

func TestFlowIsItsModel(t *testing.T) {
	r := rand.New(rand.NewSource(3))
	for range 4000 {
		at := []int{r.Intn(65536), 0, 65535 - r.Intn(30), 0xF000}[r.Intn(4)]
		l := someBytes(r, at, r.Intn(40)+1)
		entries := make([]uint16, r.Intn(4))
		for i := range entries {
			entries[i] = uint16(at + r.Intn(len(l)+4) - 2)
		}
		kept, keptEntries := slices.Clone(l), slices.Clone(entries)
		got := text.Flow(uint16(at), l, entries)
		if want := reachedBytes(at, l, entries); !slices.Equal(got, want) {
			t.Fatalf("P13.3: Flow(%04X, %x, %04X): %v, not %v", at, l, entries, got, want)
		}
		if !slices.Equal(l, kept) || !slices.Equal(entries, keptEntries) {
			t.Fatal("P13.3: what is handed in was changed")
		}
		more := text.Flow(uint16(at), l, append(entries, uint16(at+r.Intn(len(l)))))
		for i := range got {
			if got[i] && !more[i] {
				t.Fatalf("P13.4: Flow(%04X, %x, ..): one entry more than %04X reaches fewer", at, l, entries)
			}
		}
	}
}

// A long way: each code of 2^16 bytes is reached by the one behind it.
func TestFlowOfAllAddresses(t *testing.T) {
	l := make([]byte, 1<<16)
	for a := 0; a+3 < len(l); a += 3 {
		copy(l[a:], []byte{0x4C, byte(a - 3), byte((a - 3) >> 8)})
	}
	got := text.Flow(0, l, []uint16{0xFFFC - 0xFFFC%3 - 3})
	for i := range 0xFFF0 {
		if !got[i] {
			t.Fatalf("P13.3: %04X is not reached", i)
		}
	}
}
