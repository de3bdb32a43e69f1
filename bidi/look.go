package bidi

import (
	"endonym/api"
	"endonym/ucd"
)

// directions is a set of them: 1 << n of the direction n.
type directions int

const (
	turning directions = 1<<api.R | 1<<api.AL | 1<<api.AN // one of them makes a domain one in which labels may run from the right

	rightStart directions = 1<<api.R | 1<<api.AL
	leftStart  directions = 1 << api.L

	either   directions = 1<<api.EN | 1<<api.ES | 1<<api.CS | 1<<api.ET | 1<<api.ON | 1<<api.BN | 1<<api.NSM // may stand in a label whichever way it runs
	inRight  directions = turning | either
	inLeft   directions = leftStart | either
	endRight directions = turning | 1<<api.EN
	endLeft  directions = leftStart | 1<<api.EN

	digits directions = 1<<api.EN | 1<<api.AN
	laid   directions = 1 << api.NSM // lies upon what is ahead of it, and so is no end
)

func directionOf(d *ucd.Data, c rune) directions { return 1 << d.Bidi(c) }

func (s directions) within(t directions) bool { return s&^t == 0 }

// look is what the rules hang on: a few directions, so that a long label is gone through once for all of them.
type look struct {
	first directions    // of the first number
	last  directions    // of the last number that is not NSM
	all   directions    // of all numbers
	rules []func() bool // whether the rules hold, the rule 1 first; a rule that is not asked holds
}

// lookAt looks at a label that has numbers.
func lookAt(d *ucd.Data, x []rune) *look {
	l := &look{first: directionOf(d, x[0])}
	for _, c := range x {
		n := directionOf(d, c)
		l.all |= n
		if n != laid {
			l.last = n
		}
	}
	l.rules = rulesOf(l)
	return l
}

func rulesOf(l *look) []func() bool {
	fromRight := func() bool { return l.first.within(rightStart) }
	fromLeft := func() bool { return l.first.within(leftStart) }
	return []func() bool{
		func() bool { return fromRight() || fromLeft() },
		func() bool { return !fromRight() || l.all.within(inRight) },
		func() bool { return !fromRight() || l.last.within(endRight) },
		func() bool { return !fromRight() || !digits.within(l.all) },
		func() bool { return !fromLeft() || l.all.within(inLeft) },
		func() bool { return !fromLeft() || l.last.within(endLeft) },
	}
}
