package table

import (
	"slices"
	"strings"

	"endonym/api"
	"endonym/scan"
	"endonym/weigh"
)

// step takes a word, if it may stand where the step stands.
type step func(word string) bool

// draft is a record that is filled by its line's words, one after the other, as its shape says.
type draft struct {
	shape
	api.Record
}

// withLine is the list with the line's record behind it, if the line says one; or where in the line something is wrong.
func withLine(l []api.Record, line string) ([]api.Record, int, api.Errno) {
	if len(line) > api.MaxLine {
		return nil, api.MaxLine, api.ErrLong
	}
	words, end := scan.Words(line)
	if len(words) == 0 {
		return l, 0, api.OK
	}
	first := words[0].At
	if len(l) == api.MaxRecords {
		return nil, first, api.ErrMany
	}
	r, at, e := readWords(words, end)
	if e != api.OK {
		return nil, at, e
	}
	if Right(r) != api.OK {
		return nil, first, api.ErrField
	}
	return append(l, r), 0, api.OK
}

// readWords is the record that the words say, right or not; or the place of a word that may not stand there, or is missing.
func readWords(words []scan.Word, end int) (api.Record, int, api.Errno) {
	kind := kindOf(words[0].Text)
	d := &draft{shape: shapeOf(kind), Record: api.Record{Kind: kind}}
	if d.family() == none {
		return api.Record{}, words[0].At, api.ErrWord
	}
	steps, least := d.steps()
	rest := words[1:]
	for i, w := range rest {
		if i >= len(steps) || !steps[i](w.Text) {
			return api.Record{}, w.At, api.ErrWord
		}
	}
	if len(rest) < least {
		return api.Record{}, end, api.ErrWord
	}
	return d.Record, 0, api.OK
}

// steps are those of all the words that may stand behind the first one, and how many of them must.
func (d *draft) steps() ([]step, int) {
	l := d.begin(d)
	more, free := d.end(d)
	l = append(l, more...)
	return l, len(l) - free
}

func (spanned) begin(d *draft) []step { return []step{d.span} }

func (single) begin(d *draft) []step { return []step{d.point} }

func (paired) begin(*draft) []step { return nil }

// end is the steps of the words behind Lo and Hi, and how many of the last ones are free to be missing. (No row has
// anything behind numbers that may be missing.)
func (s shared) end(d *draft) ([]step, int) {
	k := s.row()
	l := slices.Repeat([]step{d.target}, k.most)
	if k.high > 0 {
		l = append(l, d.count)
	}
	l = append(l, []step{d.name, d.other}[:k.scripts]...)
	if k.weighs {
		l = append(l, d.weight)
	}
	return l, k.most - k.least
}

// number reads what says N.
func (s shared) number(word string) (int, bool) {
	if said := s.row().said; said != "" {
		n := slices.Index(strings.Fields(said), word)
		return n, n >= 0
	}
	n, ok := scan.Whole(word)
	return n, ok && n >= 0
}

func (d *draft) span(word string) bool {
	lo, hi, ok := scan.Span(word)
	d.Lo, d.Hi = int(lo), int(hi)
	return ok
}

func (d *draft) point(word string) bool {
	c, ok := scan.Code(word)
	d.Lo, d.Hi = int(c), int(c)
	return ok
}

func (d *draft) target(word string) bool {
	c, ok := scan.Code(word)
	d.To = append(d.To, c)
	return ok
}

func (d *draft) count(word string) bool {
	n, ok := d.number(word)
	d.N = n
	return ok
}

// name keeps a copy: else so short a name would hold the whole text.
func (d *draft) name(word string) bool {
	d.Name = strings.Clone(word)
	return scan.Name(word)
}

func (d *draft) other(word string) bool {
	d.Other = strings.Clone(word)
	return scan.Name(word)
}

func (d *draft) weight(word string) bool {
	a, e := weigh.Parse(word)
	d.Weight = a
	return e == api.OK
}
