package scan

import "endonym/api"

const (
	codeDigits  = 6
	wholeDigits = 9
	nameLetters = 4
	between     = ".." // what stands between the two code points of a span
)

// none is the place of a word that has not begun.
const none = -1

// words goes through the line by its runes: what ends a word is ASCII, and no byte of a longer rune, nor one that is no
// text, is taken for it.
func words(line string) ([]Word, int) {
	var l []Word
	at, end := none, len(line)
search:
	for i, c := range line {
		switch c {
		case ' ', '\t', '\r':
			l = withWord(l, line, at, i)
			at = none
			continue search
		case '#':
			end = i
			break search
		}
		if at == none {
			at = i
		}
	}
	return withWord(l, line, at, end), end
}

// withWord is the list with the word that stands from at to end behind it, if one has begun.
func withWord(l []Word, line string, at, end int) []Word {
	if at == none {
		return l
	}
	return append(l, Word{Text: line[at:end], At: at})
}

// digits reads one to most digits, without noughts ahead. (So few that no sum grows beyond an int.)
func digits(s string, base, most int) (int, bool) {
	if len(s) == 0 || len(s) > most || s[0] == '0' && len(s) > 1 {
		return 0, false
	}
	n := 0
	for _, c := range s {
		d := digit(c)
		if d >= base {
			return 0, false
		}
		n = n*base + d
	}
	return n, true
}

// digit is what a digit says; of what is none it is greater than that of every base.
func digit(c rune) int {
	switch {
	case c >= '0' && c <= '9':
		return int(c - '0')
	case c >= 'A' && c <= 'F':
		return int(c-'A') + 10
	}
	return 16
}

func isCode(c rune) bool { return c >= 0 && c <= api.MaxRune }
