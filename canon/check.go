package canon

import (
	"cmp"
	"slices"

	"endonym/api"
	"endonym/table"
)

// beyond is the first code point beyond ASCII: below it nothing opens, and nothing has a class.
const beyond = 0x80

// index is a list that table.Check takes, laid out so that what speaks of a number need not be looked for in all of it.
type index struct {
	classes  []api.Record // by Lo; and so
	openings []api.Record
	pairs    map[[2]rune]int // the place of the first KDecomp that opens to the two
}

func newIndex(l []api.Record) index {
	x := index{pairs: map[[2]rune]int{}}
	for i, r := range l {
		switch r.Kind {
		case api.KClass:
			x.classes = append(x.classes, r)
		case api.KDecomp:
			if _, known := x.pairs[pairOf(r)]; !known {
				x.pairs[pairOf(r)] = i
			}
			x.openings = append(x.openings, r)
		case api.KOpens:
			x.openings = append(x.openings, r)
		}
	}
	slices.SortFunc(x.classes, byLo)
	slices.SortFunc(x.openings, byLo)
	return x
}

func pairOf(r api.Record) [2]rune { return [2]rune{r.To[0], r.To[1]} }

func byLo(a, b api.Record) int { return cmp.Compare(a.Lo, b.Lo) }

// near is the one record, or none, that may speak of c: the first that does not end ahead of it.
func near(sorted []api.Record, c rune) []api.Record {
	at, _ := slices.BinarySearchFunc(sorted, int(c), func(r api.Record, c int) int { return cmp.Compare(r.Hi, c) })
	return sorted[at:min(at+1, len(sorted))]
}

func (x index) class(c rune) int { return Class(near(x.classes, c), c) }

func (x index) open(c rune) []rune { return opened(near(x.openings, c), c) }

func (x index) primary(c rune) bool {
	_, _, ok := Primary(near(x.openings, c), c)
	return ok
}

// wrong is what is wrong with the record at the place i.
func (x index) wrong(i int, r api.Record) api.Errno {
	opens := r.Kind == api.KDecomp || r.Kind == api.KOpens
	pairs := r.Kind == api.KDecomp
	switch {
	case !opens && r.Kind != api.KClass:
		return api.OK
	case r.Lo < beyond:
		return api.ErrBase
	case touchesHangul(r) || pairs && makesHangul(r.To[0], r.To[1]):
		return api.ErrHangul
	}
	if opens {
		if e := x.wrongFull(rune(r.Lo)); e != api.OK {
			return e
		}
	}
	if pairs && (x.pairs[pairOf(r)] < i || x.wrongPair(rune(r.Lo), r.To[0], r.To[1])) {
		return api.ErrPair
	}
	return api.OK
}

func (x index) wrongFull(c rune) api.Errno {
	all, e := full(x.open, c)
	if e != api.OK {
		return e
	}
	ahead := 0
	for _, y := range all {
		n := x.class(y)
		if ahead > n && n != 0 {
			return api.ErrClass
		}
		ahead = n
	}
	return api.OK
}

// wrongPair is whether c, which opens to a and b, could not be made of them again. (Another one that opens to the same
// two is asked for beside this.)
func (x index) wrongPair(c, a, b rune) bool {
	return x.class(c) != 0 || x.class(a) != 0 || len(x.open(b)) > 0 || len(x.open(a)) > 0 && !x.primary(a) ||
		b < beyond || a == '.'
}

// hasBase is whether what every domain may be made of is valid.
func hasBase(l []api.Record) bool {
	for _, c := range "abcdefghijklmnopqrstuvwxyz0123456789-." {
		at := table.Find(l, table.Family(api.KValid), c)
		if at < 0 || l[at].Kind != api.KValid {
			return false
		}
	}
	return true
}
