package label

import (
	"slices"

	"endonym/api"
	"endonym/bidi"
	"endonym/joiner"
	"endonym/norm"
	"endonym/ucd"
)

// look is a label that has numbers, and how it is looked at.
type look struct {
	d            *ucd.Data
	x            []rune
	flags        int
	rtl, decoded bool
}

// criteria are asked each by itself: what one of them tells keeps none of the others from telling.
func (l *look) criteria() []func() api.Errs {
	return []func() api.Errs{
		l.normalForm, l.hyphens, l.prefix, l.dots, l.firstMark, l.statuses, l.std3, l.joiners, l.directions,
	}
}

func (l *look) normalForm() api.Errs {
	is, e := norm.Is(l.d, l.x)
	return when(e != api.OK || !is, api.NotNFC)
}

func (l *look) hyphens() api.Errs {
	ends := l.hyphenAt(0) || l.hyphenAt(len(l.x)-1)
	pair := l.hyphenAt(2) && l.hyphenAt(3)
	return when(l.has(api.CheckHyphens) && (ends || pair), api.BadHyphen)
}

// prefix is not asked beside hyphens, which take xn-- for what it is too.
func (l *look) prefix() api.Errs {
	return when(!l.has(api.CheckHyphens) && Coded(l.x), api.BadPrefix)
}

func (l *look) dots() api.Errs { return when(slices.Contains(l.x, fullStop), api.BadDot) }

func (l *look) firstMark() api.Errs { return when(l.d.Mark(l.x[0]), api.BadMark) }

func (l *look) statuses() api.Errs {
	return when(slices.ContainsFunc(l.x, l.wrongStatus), api.BadStatus)
}

func (l *look) std3() api.Errs {
	wrong := func(c rune) bool { return c < 0x80 && notLDH(c) }
	return when(l.has(api.UseSTD3) && slices.ContainsFunc(l.x, wrong), api.BadSTD3)
}

func (l *look) joiners() api.Errs {
	return when(l.has(api.CheckJoiners) && joiner.Check(l.d, l.x) >= 0, api.BadJoiner)
}

func (l *look) directions() api.Errs {
	return when(l.has(api.CheckBidi) && l.rtl && bidi.Rules(l.d, l.x) != 0, api.BadBidi)
}

func (l *look) has(flag int) bool { return l.flags&flag != 0 }

func (l *look) hyphenAt(i int) bool { return i < len(l.x) && l.x[i] == hyphen }

// wrongStatus lets a Deviation out of Punycode be: nothing maps what is decoded, whatever the flags say.
func (l *look) wrongStatus(c rune) bool {
	switch l.d.Status(c) {
	case api.Valid:
		return false
	case api.Deviation:
		return l.has(api.Transitional) && !l.decoded
	}
	return true
}

func when(wrong bool, e api.Errs) api.Errs {
	if wrong {
		return e
	}
	return 0
}
