package idna

import (
	"strings"

	"endonym/api"
	"endonym/puny"
	"endonym/scalar"
)

const (
	prefix   = "xn--"
	fullStop = "."

	mostOfLabel  = 63  // bytes that the domain name system takes
	mostOfDomain = 253 // the same of all labels with full stops between
)

// carry is the labels as they are carried, with full stops between, and what is wrong with that. A label for which there is
// no Punycode counts as empty; that it is so is not told once more as its length.
func (e *Engine) carry(labels [][]rune) (string, api.Errs) {
	var told api.Errs
	texts := make([]string, len(labels))
	for i, x := range labels {
		s, ok := carried(x)
		switch {
		case !ok:
			told |= api.BadOverflow
		case e.unfit(s, mostOfLabel):
			told |= api.BadLabel
		}
		texts[i] = s
	}
	whole := strings.Join(texts, fullStop)
	if e.unfit(whole, mostOfDomain) {
		told |= api.BadDomain
	}
	if len(whole) > api.MaxText {
		told |= api.TooLong
	}
	return whole, told
}

// carried is a label as it is carried, and whether it can be.
func carried(x []rune) (string, bool) {
	if scalar.ASCII(x) {
		return text(x), true
	}
	s, no := puny.Encode(x)
	if no != api.OK {
		return "", false
	}
	return prefix + s, true
}

// unfit is whether the domain name system would not take a text of that length, where that is asked.
func (e *Engine) unfit(s string, most int) bool {
	return e.Has(api.VerifyDNS) && (len(s) == 0 || len(s) > most)
}

// text is a sequence in UTF-8. Nothing is refused here: all that a text is read, mapped, composed or decoded to is sound.
func text(x []rune) string {
	s, _, _ := scalar.Encode(x)
	return s
}
