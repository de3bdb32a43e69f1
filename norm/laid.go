package norm

import "endonym/ucd"

// none is a place, or a class, where there is nothing.
const none = -1

// laid is what there is already, while numbers come.
type laid struct {
	numbers []rune
	starter int // the place of the last starter
	highest int // the greatest class behind the last starter
}

func composed(d *ucd.Data, x []rune) []rune {
	l := laid{numbers: make([]rune, 0, len(x)), starter: none, highest: none}
	for _, c := range x {
		l.take(d, c)
	}
	return l.numbers
}

func (l *laid) take(d *ucd.Data, c rune) {
	class := d.Class(c)
	if l.starter != none && !l.blocks(class) {
		if whole, ok := d.Compose(l.numbers[l.starter], c); ok {
			l.numbers[l.starter] = whole
			return
		}
	}
	l.lay(c, class)
}

// blocks is whether what stands behind the last starter keeps one of that class from it. The greatest class says it of
// all that stand there: they need not rise.
func (l *laid) blocks(class int) bool { return l.highest >= class }

func (l *laid) lay(c rune, class int) {
	if class == 0 {
		l.starter, l.highest = len(l.numbers), none
	} else {
		l.highest = max(l.highest, class)
	}
	l.numbers = append(l.numbers, c)
}
