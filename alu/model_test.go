package alu_test

// The models are the chapter's words over whole numbers and truths: what they
// tell is held against the calls at all arguments that there are.

// flags are those of P that a call may name.
type flags struct{ c, z, v, n bool }

// on is p with these flags, and all others as they were.
func (f flags) on(p uint8) uint8 {
	p &= 4 | 8 | 16 | 32
	for _, x := range []struct {
		set   bool
		value uint8
	}{{f.c, 1}, {f.z, 2}, {f.v, 64}, {f.n, 128}} {
		if x.set {
			p += x.value
		}
	}
	return p
}

func flagsOf(p uint8) flags {
	return flags{c: p%2 == 1, z: p/2%2 == 1, v: p/64%2 == 1, n: p >= 128}
}

func isDecimal(p uint8) bool { return p/8%2 == 1 }

// marked is f, marked by a byte.
func (f flags) marked(v int) flags {
	f.z, f.n = v == 0, v >= 128
	return f
}

func number(is bool) int {
	if is {
		return 1
	}
	return 0
}

// modulo is from 0 on, of a number below 0, too.
func modulo(n, of int) int { return (n%of + of) % of }

// signed is a byte as a number from -128 on.
func signed(b int) int {
	if b >= 128 {
		return b - 256
	}
	return b
}

func bit7(n int) bool { return modulo(n, 256) >= 128 }

func modelBinarySum(a, m, c int) (int, flags) {
	sum := a + m + c
	s := signed(a) + signed(m) + c
	f := flags{c: sum > 255, v: s < -128 || s > 127}
	return sum % 256, f.marked(sum % 256)
}

func modelDecimalSum(a, m, c int) (int, flags) {
	low := a%16 + m%16 + c
	if low > 9 {
		low = modulo(low+6, 16) + 16
	}
	t := a - a%16 + m - m%16 + low
	binary, _ := modelBinarySum(a, m, c)
	f := flags{z: binary == 0, n: bit7(t), v: bit7(a) == bit7(m) && bit7(a) != bit7(t)}
	if t >= 160 {
		t += 96
	}
	f.c = t > 255
	return modulo(t, 256), f
}

func modelBinaryDifference(a, m, c int) (int, flags) { return modelBinarySum(a, 255-m, c) }

func modelDecimalDifference(a, m, c int) (int, flags) {
	_, f := modelBinaryDifference(a, m, c)
	low := a%16 - m%16 - (1 - c)
	if low < 0 {
		low = modulo(low-6, 16) - 16
	}
	t := a - a%16 - (m - m%16) + low
	if t < 0 {
		t -= 96
	}
	return modulo(t, 256), f
}

func modelCompare(a, m int, f flags) flags {
	f.c = a >= m
	return f.marked(modulo(a-m, 256))
}

// common is the bits that two bytes have both.
func common(a, m int) int {
	both := 0
	for place := 1; place < 256; place *= 2 {
		both += a / place % 2 * (m / place % 2) * place
	}
	return both
}

func modelBit(a, m int, f flags) flags {
	f.z, f.n, f.v = common(a, m) == 0, m >= 128, m/64%2 == 1
	return f
}

func modelLeft(m int, turn bool, f flags) (int, flags) {
	v := m*2%256 + number(turn && f.c)
	f.c = m >= 128
	return v, f.marked(v)
}

func modelRight(m int, turn bool, f flags) (int, flags) {
	v := m/2 + 128*number(turn && f.c)
	f.c = m%2 == 1
	return v, f.marked(v)
}

func modelBinaryOdd(t, c int) (int, flags) {
	v := t/2 + 128*c
	six, five := v/64%2, v/32%2
	f := flags{c: six == 1, v: six != five}
	return v, f.marked(v)
}

func modelDecimalOdd(t, c int) (int, flags) {
	v := t/2 + 128*c
	f := flags{n: c == 1, z: v == 0, v: t/64%2 != v/64%2}
	if low := t % 16; low+low%2 > 5 {
		v = v - v%16 + (v%16+6)%16
	}
	if high := t / 16; high+high%2 > 5 {
		v = (v + 96) % 256
		f.c = true
	}
	return v, f
}
