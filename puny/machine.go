package puny

import (
	"slices"

	"endonym/api"
	"endonym/scalar"
)

// read goes through numbers as a machine, and puts into x, which is its own to change, what each of them stands for.
//
// A number is read to its end whatever it grows to, as a byte that is no digit, or one that is wanting, is told ahead of its
// value. So the weight stops growing one above MaxDelta, where all digits but 0 are too much: that keeps the value of
// MaxPoints digits within an int.
func read(x []rune, numbers string) ([]rune, api.Errno) {
	var at, digit, k, least, value, weight, n, place int
	var ok bool
	s := begun(len(x))

number:
	if at == len(numbers) {
		return x, api.OK
	}
	k, value, weight = 1, 0, 1

another:
	if at == len(numbers) {
		return nil, api.ErrCut
	}
	digit, ok = digitOf(numbers[at])
	if !ok {
		return nil, api.ErrDigit
	}
	at++
	value += digit * weight
	least = threshold(k, s.bias)
	if digit < least {
		goto whole
	}
	weight = min(weight*(base-least), api.MaxDelta+1)
	k++
	goto another

whole:
	if value > api.MaxDelta {
		return nil, api.ErrOver
	}
	n, place = s.step(value)
	if n > api.MaxRune || !scalar.Valid(rune(n)) {
		return nil, api.ErrScalar
	}
	x = slices.Insert(x, place, rune(n))
	goto number
}
