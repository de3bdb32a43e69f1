package puny

import (
	"cmp"
	"slices"

	"endonym/api"
)

// write is the text of a sound sequence.
func write(x []rune) (string, api.Errno) {
	basic, others := parted(x)
	s := begun(len(basic))
	laid := make(tally, len(x)+1)
	b := make([]byte, 0, len(x)+1)
	for _, at := range basic {
		laid.add(at)
		b = append(b, byte(x[at]))
	}
	if len(basic) > 0 {
		b = append(b, hyphen)
	}
	for _, at := range others {
		delta := s.number(x[at], laid.ahead(at))
		if delta > api.MaxDelta {
			return "", api.ErrOver
		}
		b = appendNumber(b, delta, s.bias)
		s.step(delta)
		laid.add(at)
	}
	return string(b), api.OK
}

// parted is the places of the points below 80, and those of the others in the order of their steps.
func parted(x []rune) (basic, others []int) {
	for at, c := range x {
		if c < firstOther {
			basic = append(basic, at)
		} else {
			others = append(others, at)
		}
	}
	slices.SortStableFunc(others, func(a, b int) int { return cmp.Compare(x[a], x[b]) })
	return basic, others
}

func appendNumber(b []byte, value, bias int) []byte {
	for k := 1; ; k++ {
		least := threshold(k, bias)
		if value < least {
			return append(b, letter(value))
		}
		value -= least
		b = append(b, letter(least+value%(base-least)))
		value /= base - least
	}
}

// tally counts the places of x that are laid already. Entry j, from 1 on, counts a run of places that ends ahead of place j
// and is as long as j's lowest bit: so neither call looks at more than one entry a bit, and long sequences of unlike points
// take no time that grows with the square of their length.
type tally []int

func (t tally) add(place int) {
	for j := place + 1; j < len(t); j += j & -j {
		t[j]++
	}
}

// ahead is how many stand ahead of a place.
func (t tally) ahead(place int) int {
	n := 0
	for j := place; j > 0; j -= j & -j {
		n += t[j]
	}
	return n
}
