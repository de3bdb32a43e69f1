package norm

import (
	"endonym/api"
	"endonym/ucd"
)

// What a number is asked, the question with the stronger answer first. One that has no answer to them is a Yes.
const (
	again = iota // No, if it does not compose again
	joins        // Maybe, if it may compose with one ahead of it
)

// look is the answer of one number alone, which falls through the questions to the first that is answered.
func look(d *ucd.Data, c rune) int {
	to := d.Open(c)
	switch firstQuestion(to) {
	case again:
		if !composeTo(d, to, c) {
			return api.No
		}
		fallthrough
	case joins:
		// NFD opens it, and what it begins with then meets what is ahead.
		if d.Second(d.Full(c)[0]) {
			return api.Maybe
		}
		fallthrough
	default:
		return api.Yes
	}
}

// firstQuestion is where a number that opens to these begins: one that does not open has nothing to compose again.
func firstQuestion(to []rune) int {
	if len(to) == 0 {
		return joins
	}
	return again
}

// composeTo is whether these are two that compose to c.
func composeTo(d *ucd.Data, to []rune, c rune) bool {
	if len(to) != 2 {
		return false
	}
	whole, ok := d.Compose(to[0], to[1])
	return ok && whole == c
}
