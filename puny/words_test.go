package puny_test

import (
	"math/big"
	"slices"
	"strings"

	"endonym/api"
)

// The chapter word by word, by whole numbers of any size and without the program: what the tests hold it against.

const digits = "abcdefghijklmnopqrstuvwxyz0123456789"

// digitOf is a digit's value, or -1.
func digitOf(b byte) int {
	if b >= 'A' && b <= 'Z' {
		b += 'a' - 'A'
	}
	return strings.IndexByte(digits, b)
}

// threshold is of the k-th digit with a bias.
func threshold(k, bias int) int {
	t := 36*k - bias
	if t < 1 {
		return 1
	}
	if t > 26 {
		return 26
	}
	return t
}

// nextBias is 11.1.
func nextBias(delta, points int, first bool) int {
	d, p := big.NewInt(int64(max(delta, 0))), big.NewInt(int64(max(points, 1)))
	if first {
		d.Quo(d, big.NewInt(700))
	} else {
		d.Quo(d, big.NewInt(2))
	}
	d.Add(d, new(big.Int).Quo(d, p))
	k := 0
	for d.Cmp(big.NewInt(455)) > 0 {
		d.Quo(d, big.NewInt(35))
		k += 36
	}
	small := int(d.Int64())
	return k + 36*small/(small+38)
}

// number is a value written with a bias.
func number(value *big.Int, bias int) string {
	v := new(big.Int).Set(value)
	var b []byte
	for k := 1; ; k++ {
		t := int64(threshold(k, bias))
		if v.Cmp(big.NewInt(t)) < 0 {
			return string(append(b, digits[v.Int64()]))
		}
		v.Sub(v, big.NewInt(t))
		rest := new(big.Int)
		v.QuoRem(v, big.NewInt(36-t), rest)
		b = append(b, digits[t+rest.Int64()])
	}
}

// small is a number that fits an int64.
func small(value int, bias int) string { return number(big.NewInt(int64(value)), bias) }

// readNumber is the value of the number at a place, and the place behind it.
func readNumber(s string, at, bias int) (*big.Int, int, api.Errno) {
	value, weight := new(big.Int), big.NewInt(1)
	for k := 1; ; k++ {
		if at == len(s) {
			return nil, 0, api.ErrCut
		}
		d := digitOf(s[at])
		if d < 0 {
			return nil, 0, api.ErrDigit
		}
		at++
		value.Add(value, new(big.Int).Mul(weight, big.NewInt(int64(d))))
		t := threshold(k, bias)
		if d < t {
			return value, at, api.OK
		}
		weight.Mul(weight, big.NewInt(int64(36-t)))
	}
}

// lastHyphen is the place of the last byte 2D that is not the first byte, or -1.
func lastHyphen(s string) int {
	last := -1
	for i := 1; i < len(s); i++ {
		if s[i] == '-' {
			last = i
		}
	}
	return last
}

// readByWords is 11.3.
func readByWords(s string) ([]rune, api.Errno) {
	if len(s) > 65536 {
		return nil, api.ErrLong
	}
	if strings.ContainsFunc(s, func(c rune) bool { return c >= 0x80 }) {
		return nil, api.ErrBasic
	}
	var x []rune
	last := lastHyphen(s)
	for i := range max(last, 0) {
		x = append(x, rune(s[i]))
	}
	n, i, bias, first := 0x80, 0, 72, true
	for at := last + 1; at < len(s); {
		value, behind, e := readNumber(s, at, bias)
		if e != api.OK {
			return nil, e
		}
		if value.Cmp(big.NewInt(1<<31-1)) > 0 {
			return nil, api.ErrOver
		}
		delta, h := int(value.Int64()), len(x)+1
		i += delta
		n += i / h
		i %= h
		if n > 0x10FFFF || n >= 0xD800 && n <= 0xDFFF {
			return nil, api.ErrScalar
		}
		x = slices.Insert(x, i, rune(n))
		bias = nextBias(delta, h, first)
		at, first = behind, false
		i++
	}
	return x, api.OK
}

// writeByWords is 11.2 of a sound sequence that is not too long: a number is how many states are passed by till a point
// is put in, a state being a code point and a place.
func writeByWords(x []rune) (string, api.Errno) {
	var b strings.Builder
	for _, c := range x {
		if c < 0x80 {
			b.WriteByte(byte(c))
		}
	}
	laid := b.Len()
	if laid > 0 {
		b.WriteByte('-')
	}
	passed, bias, first := 0, 72, true
	for n := rune(0x80); laid < len(x); n++ {
		next := rune(0x110000)
		for _, c := range x {
			if c >= n {
				next = min(next, c)
			}
		}
		passed += int(next-n) * (laid + 1)
		n = next
		for _, c := range x {
			if c < n {
				passed++
			}
			if c != n {
				continue
			}
			if passed > 1<<31-1 {
				return "", api.ErrOver
			}
			b.WriteString(small(passed, bias))
			laid++
			bias, first = nextBias(passed, laid, first), false
			passed = 0
		}
		passed++
	}
	return b.String(), api.OK
}
