package weigh

import (
	"strings"

	"endonym/api"
)

// maxPowerDigits is how many digits may stand behind the e.
const maxPowerDigits = 3

// number is digits times 10^power, below 0 or not.
type number struct {
	below  bool
	digits uint64
	power  int
}

// read is the number of a text of the form.
func read(s string) (number, bool) {
	rest, below := strings.CutPrefix(s, "-")
	m := machine{rest: rest}
	if !m.run() {
		return number{}, false
	}
	power := m.power
	if m.down {
		power = -power
	}
	return number{below, m.digits, power - m.behind}, true
}

// machine reads a text's bytes; what of them it has read is in its fields.
type machine struct {
	rest   string // what is not read yet
	digits uint64 // those ahead of the e, the point left out
	count  int    // how many they are
	behind int    // how many of them stand behind the point
	down   bool   // a - stands behind the e
	power  int    // the digits behind the e
	powers int    // how many they are
}

// run tells whether what is to be read is of the form. A state that must see a digit falls into the one that may.
func (m *machine) run() bool {
	if !m.digit() {
		return false
	}
whole:
	if m.digit() {
		goto whole
	}
	if m.take('.') {
		goto point
	}
	if m.take('e') {
		goto sign
	}
	goto end
point:
	if !m.fraction() {
		return false
	}
behind:
	if m.fraction() {
		goto behind
	}
	if m.take('e') {
		goto sign
	}
	goto end
sign:
	m.down = m.take('-')
	if !m.tens() {
		return false
	}
power:
	if m.tens() {
		goto power
	}
end:
	return m.rest == "" && m.power <= api.MaxPower
}

// take goes over a byte, if it is the next one.
func (m *machine) take(c byte) bool {
	if m.rest == "" || m.rest[0] != c {
		return false
	}
	m.rest = m.rest[1:]
	return true
}

// next goes over a digit, if there is one.
func (m *machine) next() (digit int, ok bool) {
	if m.rest == "" || m.rest[0] < '0' || m.rest[0] > '9' {
		return 0, false
	}
	digit = int(m.rest[0] - '0')
	m.rest = m.rest[1:]
	return digit, true
}

// digit takes one that stands ahead of the e, if there is one and it is not one too many.
func (m *machine) digit() bool {
	if m.count == api.MaxDigits {
		return false
	}
	d, ok := m.next()
	if ok {
		m.digits = 10*m.digits + uint64(d)
		m.count++
	}
	return ok
}

// fraction takes one that stands behind the point.
func (m *machine) fraction() bool {
	ok := m.digit()
	if ok {
		m.behind++
	}
	return ok
}

// tens takes one that stands behind the e.
func (m *machine) tens() bool {
	if m.powers == maxPowerDigits {
		return false
	}
	d, ok := m.next()
	if ok {
		m.power = 10*m.power + d
		m.powers++
	}
	return ok
}
