package ucd

// The jamo L, V and T, and the syllables that are made of them.
const (
	firstL, lastL               = 0x1100, 0x1112
	firstV, lastV               = 0x1161, 0x1175
	firstT, lastT               = 0x11A8, 0x11C2
	firstSyllable, lastSyllable = 0xAC00, 0xD7A3
)

const (
	countV = lastV - firstV + 1
	tails  = lastT - firstT + 2 // a syllable has one of the jamo T, or none
)

func within(c, first, last rune) bool { return first <= c && c <= last }

// endsSyllable is whether the number is the second of two that make a syllable.
func endsSyllable(c rune) bool { return within(c, firstV, lastV) || within(c, firstT, lastT) }

// isBare is whether the number is a syllable without a jamo T.
func isBare(c rune) bool {
	return within(c, firstSyllable, lastSyllable) && (c-firstSyllable)%tails == 0
}

// syllable is the syllable that two numbers make, and whether they do.
func syllable(a, b rune) (rune, bool) {
	switch {
	case within(a, firstL, lastL) && within(b, firstV, lastV):
		return firstSyllable + ((a-firstL)*countV+b-firstV)*tails, true
	case isBare(a) && within(b, firstT, lastT):
		return a + b - firstT + 1, true
	}
	return 0, false
}
