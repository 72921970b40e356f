package cart_test

import (
	"math"
	"math/rand"
	"slices"
	"testing"

	"woodgrain/api"
	"woodgrain/cart"
)

// kind is a tag with a length, as the chapters' tables say them.
type kind struct {
	tag          string
	length, size int
	first        []int
	extra        bool
}

var kinds = []kind{
	{"2K", 2048, 2048, []int{0, 0}, false},
	{"4K", 4096, 4096, []int{0}, false},
	{"F8", 8192, 4096, []int{1}, false},
	{"F8SC", 8192, 4096, []int{1}, true},
	{"F6", 16384, 4096, []int{3}, false},
	{"F6SC", 16384, 4096, []int{3}, true},
	{"F4", 32768, 4096, []int{7}, false},
	{"F4SC", 32768, 4096, []int{7}, true},
	{"E0", 8192, 1024, []int{4, 5, 6, 7}, false},
	{"3F", 2048, 2048, []int{0, 0}, false},
	{"3F", 6144, 2048, []int{0, 2}, false},
	{"3F", 1 << 19, 2048, []int{0, 255}, false},
	{"FE", 8192, 4096, []int{0}, false},
}

func (k kind) banks() int { return k.length / k.size }

// picture is an image of which neighbours, and the same offsets of two banks,
// have other bytes.
func picture(length int) []byte {
	b := make([]byte, length)
	for i := range b {
		b[i] = uint8(i*7 + i>>10*31)
	}
	return b
}

func someExtra() [128]uint8 {
	var extra [128]uint8
	for i := range extra {
		extra[i] = uint8(200 - i)
	}
	return extra
}

func (k kind) cart(t *testing.T) *cart.Cart {
	t.Helper()
	c, e := cart.New(k.tag, picture(k.length), someExtra())
	if c == nil || e != api.OK {
		t.Fatalf("P5.1: New(%s) of %d bytes: %d", k.tag, k.length, e)
	}
	return c
}

// model is what the chapter's words make of the accesses that were watched.
type model struct {
	kind
	hot   map[int][2]int
	shown []int
	stack bool
	ram   [128]uint8
}

func (k kind) model() *model {
	return &model{kind: k, hot: hots(k.tag), shown: slices.Clone(k.first), ram: someExtra()}
}

func (m *model) copy() *model {
	other := *m
	other.shown = slices.Clone(m.shown)
	return &other
}

// hots are the hot offsets of a tag: which window shows which bank.
func hots(tag string) map[int][2]int {
	switch tag {
	case "F8", "F8SC":
		return map[int][2]int{0xFF8: {0, 0}, 0xFF9: {0, 1}}
	case "F6", "F6SC":
		return map[int][2]int{0xFF6: {0, 0}, 0xFF7: {0, 1}, 0xFF8: {0, 2}, 0xFF9: {0, 3}}
	case "F4", "F4SC":
		return map[int][2]int{0xFF4: {0, 0}, 0xFF5: {0, 1}, 0xFF6: {0, 2}, 0xFF7: {0, 3}, 0xFF8: {0, 4}, 0xFF9: {0, 5}, 0xFFA: {0, 6}, 0xFFB: {0, 7}}
	case "E0":
		all := map[int][2]int{}
		for n := range 24 {
			all[0xFE0+n] = [2]int{n / 8, n % 8}
		}
		return all
	}
	return nil
}

func (m *model) watch(addr uint16, b uint8, write bool) {
	at := int(addr) % 8192
	if hot, is := m.hot[at-4096]; is {
		m.shown[hot[0]] = hot[1]
	}
	if m.tag == "3F" && write && at <= 0x3F {
		m.shown[0] = int(b) % m.banks()
	}
	if m.tag == "FE" {
		if m.stack {
			m.shown[0] = 1 - int(b)/32%2
		}
		m.stack = at == 0x1FE
	}
	if m.extra && at >= 4096 && at < 4096+128 {
		m.ram[at-4096] = b
	}
}

func (m *model) where(addr uint16) int {
	at := int(addr) % 8192
	offset := at - 4096
	if offset < 0 || m.extra && offset < 256 {
		return -1
	}
	return m.shown[offset/m.size]*m.size + offset%m.size
}

func (m *model) peek(addr uint16, bytes []byte) (uint8, bool) {
	if at := m.where(addr); at >= 0 {
		return bytes[at], true
	}
	if at := int(addr) % 8192; m.extra && at >= 4096+128 && at < 4096+256 {
		return m.ram[at-4096-128], true
	}
	return 0, false
}

func (m *model) words() []int {
	w := append(slices.Clone(m.shown), 0)
	if m.stack {
		w[len(w)-1] = 1
	}
	for _, b := range m.ram {
		w = append(w, int(b))
	}
	return w
}

// isCart holds a cartridge against its model, address by address.
func isCart(t *testing.T, c *cart.Cart, m *model, bytes []byte) {
	t.Helper()
	if !slices.Equal(c.Show(), m.shown) || !slices.Equal(c.Words(), m.words()) || c.Extra() != m.ram {
		t.Fatalf("P5.2: %s of %d: it shows %v, not %v; words %v", m.tag, m.length, c.Show(), m.shown, c.Words())
	}
	for at := range 1 << 16 {
		addr := uint16(at)
		b, drives := c.Peek(addr)
		if want, does := m.peek(addr, bytes); b != want || drives != does {
			t.Fatalf("P5.1: %s of %d shows %v: Peek(%X): %d, %v, not %d, %v", m.tag, m.length, m.shown, addr, b, drives, want, does)
		}
		if place := c.Where(addr); place != m.where(addr) {
			t.Fatalf("P5.2: %s of %d shows %v: Where(%X): %d, not %d", m.tag, m.length, m.shown, addr, place, m.where(addr))
		}
	}
}

func TestNewRefuses(t *testing.T) {
	for _, tag := range []string{"", "f8", "F8 ", " F8", "F", "8K", "F8S", "F8SCX", "2KSC", "E0SC", "3FSC", "FESC", "3f", "4k", "\x00", "F8\x00"} {
		for _, length := range []int{0, 1, 2048, 4096, 8192} {
			if c, e := cart.New(tag, picture(length), someExtra()); c != nil || e != api.ErrTag {
				t.Errorf("P5.1: New(%q) of %d bytes: %d", tag, length, e)
			}
		}
	}
	for _, k := range kinds {
		for _, length := range []int{0, 1, k.length - 1, k.length + 1, k.length + 1024, 1<<19 + 2048} {
			if c, e := cart.New(k.tag, picture(length), someExtra()); c != nil || e != api.ErrSize {
				t.Errorf("P5.1: New(%s) of %d bytes: %d", k.tag, length, e)
			}
		}
		if c, e := cart.New(k.tag, picture(2*k.length), someExtra()); k.tag != "3F" && (c != nil || e != api.ErrSize) {
			t.Errorf("P5.1: New(%s) of %d bytes: %d", k.tag, 2*k.length, e)
		}
		if c, e := cart.New(k.tag, nil, someExtra()); c != nil || e != api.ErrSize {
			t.Errorf("P5.1: New(%s) of nil: %d", k.tag, e)
		}
	}
}

func TestPowerOn(t *testing.T) {
	for _, k := range kinds {
		isCart(t, k.cart(t), k.model(), picture(k.length))
	}
}

// TestEachAccess watches one access of each kind, from power-on on.
func TestEachAccess(t *testing.T) {
	for _, k := range kinds {
		first, begin := k.cart(t), k.model()
		for at := range 1 << 17 {
			addr, write, b := uint16(at), at >= 1<<16, uint8(at*5+1)
			c, m := first.Copy(), begin.copy()
			c.Watch(addr, b, write)
			m.watch(addr, b, write)
			if !slices.Equal(c.Show(), m.shown) || c.Extra() != m.ram || k.tag == "FE" && c.Words()[1] != m.words()[1] {
				t.Fatalf("P5.1: %s of %d: an access to %X, writing %v, byte %X: %v, not %v", k.tag, k.length, addr, write, b, c.Words(), m.words())
			}
		}
	}
}

// TestManyAccesses watches accesses of all kinds one behind the other; what is
// hot, or right beside it, comes oftener.
func TestManyAccesses(t *testing.T) {
	near := []uint16{0, 1, 0x3E, 0x3F, 0x40, 0x1FD, 0x1FE, 0x1FE, 0x1FE, 0x1FF, 0x3FE, 0x1000, 0x107F, 0x1080, 0x10FF, 0x1100, 0x11FE}
	for _, k := range kinds {
		chance := rand.New(rand.NewSource(1977))
		c, m, bytes := k.cart(t), k.model(), picture(k.length)
		for range 20000 {
			addr := uint16(chance.Intn(1 << 16))
			switch chance.Intn(4) {
			case 0:
				addr = near[chance.Intn(len(near))] + uint16(chance.Intn(8))<<13
			case 1:
				addr = 0x1FE0 + uint16(chance.Intn(32)) + uint16(chance.Intn(8))<<13
			}
			b, write := uint8(chance.Intn(256)), chance.Intn(2) == 0
			c.Watch(addr, b, write)
			m.watch(addr, b, write)
			if !slices.Equal(c.Show(), m.shown) || c.Extra() != m.ram {
				t.Fatalf("P5.3: %s of %d: an access to %X, writing %v, byte %X: %v, not %v", k.tag, k.length, addr, write, b, c.Show(), m.shown)
			}
			look := uint16(chance.Intn(1 << 16))
			got, drives := c.Peek(look)
			if place := c.Where(look); place >= 0 && (got != bytes[place] || !drives) {
				t.Fatalf("P5.3: %s of %d: Peek(%X) is %d, not the byte at %d", k.tag, k.length, look, got, place)
			}
		}
		isCart(t, c, m, bytes)
	}
}

func TestBanksAreSwitched(t *testing.T) {
	for _, k := range kinds {
		first, bytes := k.cart(t), picture(k.length)
		for offset, hot := range hots(k.tag) {
			for _, page := range []uint16{0x1000, 0x3000, 0xF000} {
				for _, write := range []bool{false, true} {
					c := first.Copy()
					c.Watch(page|uint16(offset), 0xFF, write)
					at := 0x1000 + k.size*hot[0] + 0x300
					if b, drives := c.Peek(uint16(at)); b != bytes[hot[1]*k.size+0x300] || !drives {
						t.Errorf("P5.1: %s: behind %X: Peek(%X): %d, %v", k.tag, page|uint16(offset), at, b, drives)
					}
				}
			}
		}
	}
}

func TestExampleF8(t *testing.T) {
	bytes := picture(8192)
	c, _ := cart.New("F8", bytes, [128]uint8{})
	for _, x := range []struct {
		hot   uint16
		place int
	}{{0x1FF8, 0}, {0x1FF9, 4096}, {0x1FF7, 4096}, {0x1FF8, 0}, {0x1FFA, 0}, {0x0FF9, 0}, {0x2FF9, 0}, {0xFFF9, 4096}} {
		c.Watch(x.hot, 0, false)
		if b, drives := c.Peek(0x1000); b != bytes[x.place] || !drives || c.Where(0x1000) != x.place {
			t.Errorf("P5.1: F8 behind %X: the byte at %d", x.hot, c.Where(0x1000))
		}
	}
}

func TestByteModuloBanks(t *testing.T) {
	for _, banks := range []int{1, 2, 3, 5, 128, 255, 256} {
		c, _ := cart.New("3F", picture(2048*banks), [128]uint8{})
		for b := range 256 {
			c.Watch(uint16(b)%0x40, uint8(b), true)
			if show := c.Show(); !slices.Equal(show, []int{b % banks, banks - 1}) {
				t.Fatalf("P5.1: 3F with %d banks, writing %d: %v", banks, b, show)
			}
			c.Watch(0x3F, uint8(b+1), false)
			c.Watch(0x40, uint8(b+1), true)
			c.Watch(0x103F, uint8(b+1), true)
			if show := c.Show(); show[0] != b%banks {
				t.Fatalf("P5.3: 3F with %d banks changes to %v", banks, show)
			}
		}
	}
	c, _ := cart.New("3F", picture(6144), [128]uint8{})
	c.Watch(0x3F, 4, true)
	if c.Show()[0] != 1 {
		t.Errorf("P5.1: 3F with 3 banks, writing 4: %v", c.Show())
	}
	c.Watch(0xE000, 5, true)
	if c.Show()[0] != 2 {
		t.Errorf("P5.1: 3F, writing 5 to E000: %v", c.Show())
	}
}

func TestBehindStack(t *testing.T) {
	type access struct {
		addr  uint16
		b     uint8
		write bool
		bank  int // that is shown behind it
		stack int // the word
	}
	c, _ := cart.New("FE", picture(8192), [128]uint8{})
	for i, x := range []access{
		{0x1000, 0x00, false, 0, 0},
		{0x01FE, 0x00, true, 0, 1},  // its own byte does nothing
		{0x01FF, 0xD0, true, 1, 0},  // bit 5 is not set
		{0x1FF8, 0xF0, false, 1, 0}, // only the one behind it
		{0x01FE, 0x20, false, 1, 1},
		{0x1234, 0x20, false, 0, 0}, // bit 5 is set
		{0x11FE, 0x00, false, 0, 0}, // another one of 13 bits
		{0x1000, 0x00, false, 0, 0},
		{0xE1FE, 0x00, false, 0, 1}, // the same one of 13 bits
		{0x21FE, 0xDF, true, 1, 1},  // behind one, and one itself
		{0x01FE, 0xFF, false, 0, 1},
		{0x03FE, 0x1F, false, 1, 0},
		{0x0000, 0xFF, false, 1, 0},
	} {
		c.Watch(x.addr, x.b, x.write)
		if c.Show()[0] != x.bank || c.Words()[1] != x.stack {
			t.Errorf("P5.1: FE, access %d (%X, %X): bank %d, word %d", i, x.addr, x.b, c.Show()[0], c.Words()[1])
		}
	}
}

func TestExtraRAM(t *testing.T) {
	for _, k := range kinds {
		c := k.cart(t)
		for _, write := range []bool{true, false} {
			for _, offset := range []uint16{0, 1, 126, 127} {
				b := uint8(offset) + 3
				if write {
					b += 7
				}
				c.Watch(0x1000+offset, b, write)
				got, drives := c.Peek(0x1080 + offset)
				if _, back := c.Peek(0x1000 + offset); k.extra && (got != b || !drives || back || c.Extra()[offset] != b) {
					t.Errorf("P5.1: %s, offset %d, writing %v: %d, %v", k.tag, offset, write, got, drives)
				}
				if k.extra && (c.Where(0x1000+offset) != -1 || c.Where(0x1080+offset) != -1) {
					t.Errorf("P5.2: %s: offset %d is the image's", k.tag, offset)
				}
			}
		}
		before := c.Extra()
		for _, addr := range []uint16{0x0000, 0x007F, 0x0080, 0x1080, 0x10FF, 0x1100, 0x2001, 0xE07F} {
			c.Watch(addr, before[addr%128]+1, true)
			c.Watch(addr, before[addr%128]+1, false)
		}
		if c.Extra() != before {
			t.Errorf("P5.1: %s: the extra RAM changes beyond its offsets", k.tag)
		}
		if !k.extra && before != someExtra() {
			t.Errorf("P5.2: %s has no extra RAM, but its bytes changed", k.tag)
		}
		if b, drives := c.Peek(0x1100); !drives || b != picture(k.length)[c.Where(0x1100)] {
			t.Errorf("P5.1: %s: offset 256 is not the image's", k.tag)
		}
	}
}

func TestExampleF8SC(t *testing.T) {
	c, _ := cart.New("F8SC", picture(8192), [128]uint8{})
	c.Watch(0x1001, 5, true)
	if b, drives := c.Peek(0x1081); b != 5 || !drives {
		t.Errorf("P5.1: F8SC: %d, %v", b, drives)
	}
}

// wandered is a cartridge behind accesses that change all that it has.
func (k kind) wandered(t *testing.T) *cart.Cart {
	c := k.cart(t)
	for i := range 128 {
		c.Watch(0x1000+uint16(i), uint8(3*i), true)
	}
	for _, addr := range []uint16{0x1FE3, 0x1FE9, 0x1FF5, 0x1FF8} {
		c.Watch(addr, 0, false)
	}
	c.Watch(0x3F, 200, true)
	for _, b := range []uint8{0, 0xDF, 0xFF} { // FE: bank 0 behind the third, its word set
		c.Watch(0x1FE, b, false)
	}
	if k.tag == "FE" {
		c.Watch(0x1FE, 0, false) // and bank 1 behind the fourth
	}
	return c
}

func TestWordsFromOneSetInAnother(t *testing.T) {
	for _, k := range kinds {
		from, to := k.wandered(t), k.cart(t)
		w := from.Words()
		if len(w) != len(k.first)+1+128 || !slices.Equal(w[:len(k.first)], from.Show()) {
			t.Errorf("P5.2: %s has %d words", k.tag, len(w))
		}
		if stack := w[len(k.first)]; (stack == 1) != (k.tag == "FE") {
			t.Errorf("P5.2: %s behind 1FE has the word %d", k.tag, stack)
		}
		if k.length > 4096 && slices.Equal(w, to.Words()) {
			t.Errorf("P5.2: %s: the words don't tell what changed", k.tag)
		}
		spare := append(slices.Clone(w), 7, 7)
		if e := to.Set(spare[:len(w)]); e != api.OK || !slices.Equal(to.Words(), w) || to.Extra() != from.Extra() || !slices.Equal(to.Show(), from.Show()) {
			t.Errorf("P5.2: %s: Set: %d, %v", k.tag, e, to.Words())
		}
		clear(spare)
		for at := range 1 << 13 {
			b, drives := from.Peek(uint16(at))
			if got, does := to.Peek(uint16(at)); got != b || does != drives || to.Where(uint16(at)) != from.Where(uint16(at)) {
				t.Fatalf("P5.2: %s: Peek(%X) behind Set: %d, %v", k.tag, at, got, does)
			}
		}
		from.Watch(0x1300, 0x20, false)
		to.Watch(0x1300, 0x20, false)
		if !slices.Equal(to.Words(), from.Words()) {
			t.Errorf("P5.2: %s goes on otherwise behind Set", k.tag)
		}
	}
}

func TestSetEachBank(t *testing.T) {
	for _, k := range kinds {
		first := k.cart(t)
		for window := range k.first {
			for bank := -1; bank <= k.banks(); bank++ {
				c, w, want := first.Copy(), first.Words(), api.OK
				w[window] = bank
				behind := w
				fixed := (k.tag == "3F" || k.tag == "E0") && window == len(k.first)-1
				if bank < 0 || bank >= k.banks() || fixed && bank != k.banks()-1 {
					want, behind = api.ErrRange, first.Words()
				}
				if e := c.Set(w); e != want || !slices.Equal(c.Words(), behind) {
					t.Fatalf("P5.2: %s of %d: window %d, bank %d: %d, %v", k.tag, k.length, window, bank, e, c.Show())
				}
			}
		}
	}
}

func TestSetRefuses(t *testing.T) {
	for _, k := range kinds {
		c := k.wandered(t)
		before, n := c.Words(), len(k.first)
		for _, w := range [][]int{nil, {}, before[1:], before[:len(before)-1], append(slices.Clone(before), 0), before[:n], {math.MaxInt}, make([]int, 2*len(before))} {
			if e := c.Set(w); e != api.ErrArg || !slices.Equal(c.Words(), before) {
				t.Errorf("P5.2: %s: Set of %d words: %d", k.tag, len(w), e)
			}
		}
		for place := range before {
			for _, wrong := range []int{-1, 256, 1 << 16, math.MinInt, math.MaxInt} {
				w := slices.Clone(before)
				for i := range w[n+1:] {
					w[n+1+i] = 255 - i // so that a change by a refused Set is seen
				}
				w[place] = wrong
				if e := c.Set(w); e != api.ErrRange || !slices.Equal(c.Words(), before) {
					t.Fatalf("P5.2: %s: the word %d is %d: %d", k.tag, place, wrong, e)
				}
			}
		}
	}
}

func TestSetStackWord(t *testing.T) {
	for _, k := range kinds {
		for stack := -1; stack <= 2; stack++ {
			c, want := k.cart(t), api.ErrRange
			if stack == 0 || stack == 1 && k.tag == "FE" {
				want = api.OK
			}
			w := c.Words()
			w[len(k.first)] = stack
			if e := c.Set(w); e != want {
				t.Errorf("P5.2: %s: the word behind the banks is %d: %d", k.tag, stack, e)
			}
		}
	}
	c, _ := cart.New("FE", picture(8192), [128]uint8{})
	w := c.Words()
	w[1] = 1
	c.Set(w)
	c.Watch(0x1000, 0, false)
	if c.Show()[0] != 1 || c.Words()[1] != 0 {
		t.Error("P5.2: FE behind Set does not look at the next access")
	}
}

func TestSetBytes(t *testing.T) {
	for _, k := range kinds {
		c := k.cart(t)
		w := c.Words()
		for i := range 128 {
			w[len(k.first)+1+i] = 255 * (i % 2)
		}
		if e := c.Set(w); e != api.OK || c.Extra()[126] != 0 || c.Extra()[127] != 255 || !slices.Equal(c.Words(), w) {
			t.Errorf("P5.2: %s: Set of bytes: %d, %v", k.tag, e, c.Extra())
		}
	}
}

func TestCopy(t *testing.T) {
	for _, k := range kinds {
		c := k.cart(t)
		d := c.Copy()
		isCart(t, d, k.model(), picture(k.length))
		d.Watch(0x1FE, 0, false)
		if e := d.Set(k.wandered(t).Words()); e != api.OK {
			t.Errorf("P5.2: %s: Set of a copy: %d", k.tag, e)
		}
		isCart(t, c, k.model(), picture(k.length))
		before := d.Words()
		c.Watch(0x1FE, 0, false)
		c.Watch(0x1000, 0, false)
		c.Watch(0x1FF8, 0, false)
		c.Watch(0x3F, 1, true)
		if !slices.Equal(d.Words(), before) {
			t.Errorf("P5.2: %s: a copy changes with its cartridge", k.tag)
		}
	}
}

func TestNothingIsShared(t *testing.T) {
	for _, k := range kinds {
		bytes := append(picture(k.length), 1, 2, 3)
		c, _ := cart.New(k.tag, bytes[:k.length], someExtra())
		if !slices.Equal(bytes[:k.length], picture(k.length)) || !slices.Equal(bytes[k.length:], []byte{1, 2, 3}) {
			t.Errorf("R4: %s: New changed the image", k.tag)
		}
		clear(bytes)
		show, words := c.Show(), c.Words()
		for i := range show {
			show[i] = 99
		}
		_ = append(show, 99)
		for i := range words {
			words[i] = 99
		}
		isCart(t, c, k.model(), picture(k.length))
	}
}

func TestNilCart(t *testing.T) {
	var c *cart.Cart
	c.Watch(0x1FF8, 1, true)
	c.Watch(0x1FE, 1, false)
	for _, addr := range []uint16{0, 0x3F, 0x1FE, 0x1000, 0x1080, 0x1FFF, 0xFFFF} {
		if b, drives := c.Peek(addr); b != 0 || drives {
			t.Errorf("P5.4: Peek(%X): %d, %v", addr, b, drives)
		}
		if c.Where(addr) != -1 {
			t.Errorf("P5.4: Where(%X): %d", addr, c.Where(addr))
		}
	}
	if len(c.Show()) != 0 || len(c.Words()) != 0 || c.Extra() != [128]uint8{} || c.Copy() != nil {
		t.Error("P5.4: Show, Words, Extra, Copy")
	}
	for _, w := range [][]int{nil, {0}, make([]int, 130)} {
		if c.Set(w) != api.ErrArg {
			t.Errorf("P5.4: Set of %d words", len(w))
		}
	}
}
