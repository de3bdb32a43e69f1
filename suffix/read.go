package suffix

import (
	"slices"
	"strings"

	"endonym/api"
	"endonym/idna"
	"endonym/name"
	"endonym/scan"
)

const (
	except = "!" // stands ahead of an exception's labels
	wild   = "*" // is any label
	stop   = "."
)

// take takes the rule that a line says, if it says one; or tells where in the line something is wrong.
func (r *Rules) take(e *idna.Engine, line string) (int, api.Errno) {
	if len(line) > api.MaxLine {
		return api.MaxLine, api.ErrLong
	}
	words, _ := scan.Words(line)
	if len(words) == 0 {
		return 0, api.OK
	}
	first := words[0]
	if len(r.labels) == api.MaxRules {
		return first.At, api.ErrMany
	}
	text, ok := readRule(e, first.Text)
	switch {
	case !ok:
		return first.At, api.ErrRule
	case len(words) > 1:
		return words[1].At, api.ErrWord
	case r.labels[text] > 0:
		return first.At, api.ErrTwice
	}
	r.labels[text] = len(name.Labels(text))
	return 0, api.OK
}

// readRule is a word's rule as it is kept, and whether the word is one.
func readRule(e *idna.Engine, word string) (string, bool) {
	if word == wild {
		return wild, true
	}
	front, rest := cutFront(word)
	carried, wrong := e.ToASCII(rest)
	if wrong != 0 || !fits(name.Labels(carried), front == except) {
		return "", false
	}
	text := front + carried
	if len(text) > api.MaxLine {
		return "", false
	}
	return text, true
}

// cutFront cuts off what the engine is not asked of. A `*` of an exception is not cut off: so it is refused there, like
// every other one that does not stand in front.
func cutFront(word string) (front, rest string) {
	switch {
	case strings.HasPrefix(word, except):
		front = except
	case strings.HasPrefix(word, wild+stop):
		front = wild + stop
	}
	return front, word[len(front):]
}

// fits is whether a rule, or an exception, may have these labels. An exception of one would leave a suffix of none.
func fits(labels []string, exception bool) bool {
	least := 1
	if exception {
		least = 2
	}
	return len(labels) >= least && !slices.ContainsFunc(labels, unfit)
}

func unfit(label string) bool { return label == "" || strings.ContainsFunc(label, notLDH) }

func notLDH(c rune) bool {
	return (c < 'a' || c > 'z') && (c < '0' || c > '9') && c != '-'
}
