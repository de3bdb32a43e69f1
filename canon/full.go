package canon

import (
	"slices"

	"endonym/api"
	"endonym/table"
)

// findOpening is the place of the record that says what c opens to, or -1.
func findOpening(l []api.Record, c rune) int { return table.Find(l, table.Family(api.KDecomp), c) }

// opened is what c opens to; it may be the list's own memory, which is not handed out.
func opened(l []api.Record, c rune) []rune {
	if isSyllable(c) {
		a, b := openSyllable(c)
		return []rune{a, b}
	}
	at := findOpening(l, c)
	if at < 0 {
		return nil
	}
	return l[at].To
}

// walk goes from a number down to those that open no more.
type walk struct {
	open func(c rune) []rune
	way  []rune // the numbers that are being opened, each a step below the one ahead of it
	ends []rune // those that open no more, so far
}

// full walks down from c, and catches the walk's giving up: no face lets it out.
func full(open func(c rune) []rune, c rune) (x []rune, e api.Errno) {
	defer func() {
		if fault, gaveUp := recover().(api.Errno); gaveUp {
			x, e = nil, fault
		}
	}()
	w := &walk{open: open}
	w.down(c)
	return w.ends, api.OK
}

// down gives up by panic, so that no step above has to ask whether one below it did. It ends: what opens leads to an
// end or to a fault within MaxNest steps, and only MaxFull ends are taken.
func (w *walk) down(c rune) {
	to := w.open(c)
	switch {
	case len(to) == 0:
		w.take(c)
		return
	case slices.Contains(w.way, c):
		panic(api.ErrLoop)
	case len(w.way) == api.MaxNest:
		panic(api.ErrDeep)
	}
	w.way = append(w.way, c)
	for _, next := range to {
		w.down(next)
	}
	w.way = w.way[:len(w.way)-1]
}

func (w *walk) take(c rune) {
	if len(w.ends) == api.MaxFull {
		panic(api.ErrLong)
	}
	w.ends = append(w.ends, c)
}
