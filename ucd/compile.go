package ucd

import (
	"cmp"
	"slices"

	"endonym/api"
	"endonym/table"
	"endonym/trie"
	"endonym/weigh"
)

// compiled is the Data of a right table. Of a family one of its kinds is named, to say which it is.
func compiled(l []api.Record) *Data {
	return &Data{
		statuses:     statuses{valuesOf(l, api.KValid)},
		classes:      classes{valuesOf(l, api.KClass)},
		directions:   directions{valuesOf(l, api.KBidi)},
		joinings:     joinings{valuesOf(l, api.KJoin)},
		marks:        marks{valuesOf(l, api.KMark)},
		mappings:     mappings{speakersOf(l, api.KMapped)},
		openings:     openings{speakersOf(l, api.KDecomp)},
		scripts:      scripts{speakersOf(l, api.KScript)},
		likenesses:   likenesses{speakersOf(l, api.KLooks)},
		weights:      weights{speakersOf(l, api.KWeight)},
		compositions: compositionsOf(l),
		mixtures:     mixturesOf(l),
	}
}

// familyOf is the records of a kind's family.
func familyOf(l []api.Record, kind int) []api.Record {
	var own []api.Record
	for _, r := range l {
		if table.Family(r.Kind) == table.Family(kind) {
			own = append(own, r)
		}
	}
	return own
}

// valuesOf is the trie that tells the values of a family's records.
func valuesOf(l []api.Record, kind int) *trie.Trie {
	var ranges []api.Range
	for _, r := range familyOf(l, kind) {
		ranges = append(ranges, spoken(r, value(r))...)
	}
	return built(ranges)
}

// speakersOf is a family's records, and the trie that tells their places.
func speakersOf(l []api.Record, kind int) speakers {
	records := []api.Record{{}}
	var ranges []api.Range
	for _, r := range familyOf(l, kind) {
		ranges = append(ranges, spoken(r, len(records))...)
		r.To = slices.Clone(r.To)
		records = append(records, r)
	}
	return speakers{built(ranges), records}
}

// value is what a record says of its code points, if a number says it.
func value(r api.Record) int {
	switch r.Kind {
	case api.KValid:
		return api.Valid
	case api.KIgnored:
		return api.Ignored
	case api.KMapped, api.KShift:
		return api.Mapped
	case api.KDeviation:
		return api.Deviation
	case api.KMark:
		return 1
	}
	return r.N
}

// spoken is the code points of which a record speaks, with a value.
func spoken(r api.Record, value int) []api.Range {
	if r.Kind != api.KShift || r.N == 1 {
		return []api.Range{{Lo: r.Lo, Hi: r.Hi, Value: value}}
	}
	var l []api.Range
	for c := r.Lo; c <= r.Hi; c += r.N {
		l = append(l, api.Range{Lo: c, Hi: c, Value: value})
	}
	return l
}

// built is the trie of a family's ranges, which it may sort. None is refused: in a right table no two of a family meet.
func built(l []api.Range) *trie.Trie {
	slices.SortFunc(l, func(a, b api.Range) int { return cmp.Compare(a.Lo, b.Lo) })
	t, _, _ := trie.Build(l, 0)
	return t
}

func compositionsOf(l []api.Record) compositions {
	x := compositions{pairs: map[pair]rune{}, seconds: map[rune]int{}}
	for _, r := range l {
		if r.Kind == api.KDecomp {
			x.pairs[pair{r.To[0], r.To[1]}] = rune(r.Lo)
			x.seconds[r.To[1]]++
		}
	}
	return x
}

func mixturesOf(l []api.Record) mixtures {
	x := mixtures{costs: map[names]float64{}}
	for _, r := range l {
		if r.Kind == api.KMix {
			x.costs[eitherOrder(r.Name, r.Other)] = weigh.Narrow(r.Weight)
		}
	}
	return x
}
