package table

import (
	"slices"

	"endonym/api"
)

// run is the code points from lo on up to hi, step by step; none, if the step is below 1.
type run struct{ lo, hi, step int }

// has asks the remainder of a difference without a sign: that of an int and a code point may be greater than every int.
func (x run) has(c int) bool {
	return isPoint(c) && x.lo <= c && c <= x.hi && x.step > 0 && uint(c-x.lo)%uint(x.step) == 0
}

// meets is whether a code point lies in both. It goes along the one with the greater step, and not on when the
// remainders by the lesser one come round again. (Most runs lie apart: that is asked first, as it costs least.)
func (x run) meets(y run) bool {
	if x.hi < y.lo || y.hi < x.lo {
		return false
	}
	if x.step < y.step {
		x, y = y, x
	}
	c := x.from(y.lo)
	for range y.step {
		if c > x.hi {
			return false
		}
		if y.has(c) {
			return true
		}
		c += x.step
	}
	return false
}

// from is the first place of the run, were it without end, that is not below lo.
func (x run) from(lo int) int {
	if lo <= x.lo {
		return x.lo
	}
	return lo + (x.step-(lo-x.lo)%x.step)%x.step
}

// firstWrong is the first record that is not right, and what is wrong with it, unless there are too many.
func firstWrong(l []api.Record) (int, api.Errno) {
	if len(l) > api.MaxRecords {
		return 0, api.ErrMany
	}
	for i, r := range l {
		if e := Right(r); e != api.OK {
			return i, e
		}
	}
	return 0, api.OK
}

// ledger is of what the records so far have spoken.
type ledger struct {
	runs  [families][]run
	pairs map[[2]string]int // how often two scripts were mixed, the lesser one first
}

// twice is whether the record speaks of what one ahead of it has spoken of; it is written down.
func (b *ledger) twice(r api.Record) bool {
	if r.Kind == api.KMix {
		return b.mixed(min(r.Name, r.Other), max(r.Name, r.Other))
	}
	f, x := Family(r.Kind), shapeOf(r.Kind).spoken(r)
	known := slices.ContainsFunc(b.runs[f], x.meets)
	b.runs[f] = append(b.runs[f], x)
	return known
}

func (b *ledger) mixed(lesser, greater string) bool {
	b.pairs[[2]string{lesser, greater}]++
	return b.pairs[[2]string{lesser, greater}] > 1
}

// firstTwice is the first of the records, all of them right, that says what one ahead of it has said.
func firstTwice(l []api.Record) (int, api.Errno) {
	b := &ledger{pairs: map[[2]string]int{}}
	if at := slices.IndexFunc(l, b.twice); at >= 0 {
		return at, api.ErrTwice
	}
	return 0, api.OK
}
