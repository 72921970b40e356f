package asm

import (
	"math"

	"woodgrain/api"
)

// layout is how values are put.
type layout int

const (
	oneByte layout = iota
	twoBytes
	distance // of a branch
)

// piece is the bytes of a line: a code or none, and values.
type piece struct {
	line, at int
	head     []byte
	as       layout
	values   []value
}

func (p piece) size() int {
	if p.as == twoBytes {
		return len(p.head) + 2*len(p.values)
	}
	return len(p.head) + len(p.values)
}

// add keeps a piece for the second going-through.
func (b *builder) add(p piece) {
	p.line, p.at = b.line, b.at
	if p.at+p.size() > topAddress {
		panic(wrong(api.ErrLong))
	}
	if len(b.pieces) == 0 {
		b.start = p.at
	}
	b.pieces = append(b.pieces, p)
	b.at += p.size()
}

// makeBytes is the second going-through: all names are known now.
func (b *builder) makeBytes() {
	for _, p := range b.pieces {
		b.line = p.line
		b.fill(p.at)
		b.bytes = append(b.bytes, p.head...)
		b.bytes = b.values(p)
	}
	if len(b.pieces) > 0 {
		b.fill(b.at)
	}
}

// fill puts 0 up to an address.
func (b *builder) fill(to int) {
	for b.start+len(b.bytes) < to {
		b.bytes = append(b.bytes, 0)
	}
}

// values tells the bytes with those of a piece's values behind them.
func (b *builder) values(p piece) []byte {
	switch p.as {
	case twoBytes:
		return put(b.bytes, p.values, b.two)
	case distance:
		return put(b.bytes, p.values, func(v value) uint8 { return b.distance(v, p.at+p.size()) })
	}
	return put(b.bytes, p.values, b.one)
}

// put tells bytes with values behind them, of each the lower byte first: as
// many as the type has that each is turned into.
func put[T uint8 | uint16](bytes []byte, values []value, turn func(value) T) []byte {
	for _, v := range values {
		n := uint16(turn(v))
		bytes = append(bytes, uint8(n))
		if uint16(^T(0)) > math.MaxUint8 {
			bytes = append(bytes, uint8(n>>8))
		}
	}
	return bytes
}

func (b *builder) one(v value) uint8 {
	n := b.number(v)
	if n > math.MaxUint8 {
		panic(wrong(api.ErrRange))
	}
	return uint8(n)
}

func (b *builder) two(v value) uint16 {
	return uint16(b.number(v))
}

// distance tells how far a place is from an address. It goes round as the
// processor's addresses do, so that a branch over FFFF can be written.
func (b *builder) distance(v value, from int) uint8 {
	far := int16(b.number(v) - from)
	if far < math.MinInt8 || far > math.MaxInt8 {
		panic(wrong(api.ErrFar))
	}
	return uint8(far)
}
