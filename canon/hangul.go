package canon

import "endonym/api"

// The jamo L, V and T, and the syllables that are made of them.
const (
	firstL, lastL               = 0x1100, 0x1112
	firstV, lastV               = 0x1161, 0x1175
	firstT, lastT               = 0x11A8, 0x11C2
	firstSyllable, lastSyllable = 0xAC00, 0xD7A3
)

const (
	countV = lastV - firstV + 1
	tails  = lastT - firstT + 2 // a syllable has one of the jamo T, or none
)

func within(c, first, last rune) bool { return first <= c && c <= last }

func isSyllable(c rune) bool { return within(c, firstSyllable, lastSyllable) }

// tail is a syllable's t, from 0 on.
func tail(syllable rune) rune { return (syllable - firstSyllable) % tails }

func openSyllable(c rune) (a, b rune) {
	if t := tail(c); t > 0 {
		return c - t, firstT - 1 + t
	}
	n := (c - firstSyllable) / tails
	return firstL + n/countV, firstV + n%countV
}

// touchesHangul is whether the record speaks of a jamo or of a syllable.
func touchesHangul(r api.Record) bool {
	meets := func(first, last int) bool { return r.Lo <= last && first <= r.Hi }
	return meets(firstL, lastL) || meets(firstV, lastV) || meets(firstT, lastT) || meets(firstSyllable, lastSyllable)
}

// makesHangul is whether the two are what a syllable opens to.
func makesHangul(a, b rune) bool {
	if isSyllable(a) {
		return tail(a) == 0 && within(b, firstT, lastT)
	}
	return within(a, firstL, lastL) && within(b, firstV, lastV)
}
