package script

import "woodgrain/api"

// Build writes one.
func Build(s api.Script) ([]byte, api.Errno) {
	if e := Check(s); e != api.OK {
		return nil, e
	}
	b := make([]byte, 0, length(s))
	b = append(appendNumber(b, tagLength, len(s.Tag)), s.Tag...)
	b = append(appendNumber(b, imageLength, len(s.Image)), s.Image...)
	b = appendPower(b, s.Power)
	for _, v := range s.Events {
		b = append(appendNumber(b, eventClocks, v.Clocks), v.Kind, v.Value)
	}
	return b, api.OK
}

func appendPower(b []byte, p api.Power) []byte {
	b = append(append(b, p.Ram[:]...), p.Extra[:]...)
	r := p.Regs
	b = append(b, r.A, r.X, r.Y, r.S, r.P)
	return append(appendNumber(b, pcBytes, int(r.PC)), p.Clock, p.Latch)
}

// appendNumber writes so many bytes of a number, the lowest one first.
func appendNumber(b []byte, bytes, n int) []byte {
	for range bytes {
		b = append(b, byte(n))
		n >>= 8
	}
	return b
}
