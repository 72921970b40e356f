package tia

import "woodgrain/api"

// How many words the parts have.
const (
	beamWords   = 2
	motionWords = 3
	thingWords  = 3
	voiceWords  = 8
	potWords    = 11
	partWords   = beamWords + motionWords + things*thingWords + voices*voiceWords + potWords
	manyWords   = partWords + manyRegisters + 2
)

const (
	mostByte = 1<<8 - 1
	mostMet  = 1<<15 - 1
)

// Words tells all that it has.
func (t *Tia) Words() []int {
	if t == nil {
		return nil
	}
	w := t.appendParts(make([]int, 0, manyWords))
	for _, b := range t.registers {
		w = append(w, int(b))
	}
	waits := 0
	if t.waits {
		waits = 1
	}
	return append(w, int(t.met), waits)
}

func (t *Tia) appendParts(w []int) []int {
	beams, motions := t.beam.Words(), t.motion.Words()
	w = append(append(w, beams[:]...), motions[:]...)
	for _, thing := range t.things {
		words := thing.Words()
		w = append(w, words[:]...)
	}
	for _, v := range t.voices {
		words := v.Words()
		w = append(w, words[:]...)
	}
	ports := t.pots.Words()
	return append(w, ports[:]...)
}

// Set sets all that it has.
func (t *Tia) Set(w []int) api.Errno {
	if t == nil || len(w) != manyWords {
		return api.ErrArg
	}
	// A new one takes the words, so that this one stays as it is if some of
	// them can't be so.
	next := New(0)
	if !next.setParts(w[:partWords]) || !next.setRest(w[partWords:]) {
		return api.ErrRange
	}
	*t = *next
	return api.OK
}

// setParts takes partWords words; false, if some can't be so.
func (t *Tia) setParts(w []int) bool {
	cut := func(n int) []int {
		words := w[:n]
		w = w[n:]
		return words
	}
	if t.beam.Set([beamWords]int(cut(beamWords))) != api.OK || t.motion.Set([motionWords]int(cut(motionWords))) != api.OK {
		return false
	}
	for _, thing := range t.things {
		if thing.Set([thingWords]int(cut(thingWords))) != api.OK {
			return false
		}
	}
	for _, v := range t.voices {
		if v.Set([voiceWords]int(cut(voiceWords))) != api.OK {
			return false
		}
	}
	return t.pots.Set([potWords]int(cut(potWords))) == api.OK
}

// setRest takes the words behind those of the parts; false, if some can't be so.
func (t *Tia) setRest(w []int) bool {
	for at := range t.registers {
		most := mostByte
		if at >= ballOn && at < ballOn+states {
			most = 1
		}
		if !within(w[at], most) {
			return false
		}
		t.registers[at] = uint8(w[at])
	}
	met, waits := w[manyRegisters], w[manyRegisters+1]
	if !within(met, mostMet) || !within(waits, 1) {
		return false
	}
	t.met, t.waits = uint16(met), waits == 1
	return true
}

func within(n, most int) bool { return 0 <= n && n <= most }
