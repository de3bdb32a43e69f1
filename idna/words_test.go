package idna_test

import (
	"regexp"
	"slices"
	"strings"
	"testing"
	"unicode/utf8"

	"endonym/api"
	"endonym/canon"
	"endonym/house"
	"endonym/idna"
	"endonym/table"
	"endonym/ucd"
)

// The chapters word by word, over the records of a table and without the program's layers but canon's decompositions: what
// the tests hold idna against.

const base = "valid 61..7A\nvalid 30..39\nvalid 2D..2E\n"

// fact is what the records say of a number.
type fact struct {
	status, class, bidi, join int
	mark                      bool
	to, full                  []rune
}

// world is a right table, compiled and as its records say it, with an engine for each setting.
type world struct {
	name    string
	l       []api.Record
	d       *ucd.Data
	engines [64]*idna.Engine
	facts   map[rune]fact
	pairs   map[[2]rune]rune // what composes
	all     []rune           // scalar values that the table tells apart
	tame    []rune           // those of them that are Valid, and no full stop
}

func worldOf(t *testing.T, name string, l []api.Record) *world {
	t.Helper()
	d, at, e := ucd.Compile(l)
	if e != api.OK {
		t.Fatalf("%s: Compile: %d, %v", name, at, e)
	}
	w := &world{name: name, l: l, d: d, facts: map[rune]fact{}, pairs: map[[2]rune]rune{}}
	for flags := range w.engines {
		if w.engines[flags], e = idna.New(d, flags); e != api.OK || w.engines[flags] == nil {
			t.Fatalf("19.1: %s: New with %d: %v", name, flags, e)
		}
	}
	for c := rune(0xAC00); c <= 0xD7A3; c++ {
		a, b, _ := canon.Primary(nil, c)
		w.pairs[[2]rune{a, b}] = c
	}
	w.all = []rune{0, 0x2D, 0x2E, 0x41, 0x5F, 0x61, 0x62, 0x78, 0x6E, 0x7F, 0x80, 0x1100, 0x1161, 0x11A8, 0xAC00, 0xAC01, 0x200B, 0x200C, 0x200D, 0xFFFF, 0x10FFFF}
	for _, r := range l {
		if r.Kind == api.KDecomp {
			w.pairs[[2]rune{r.To[0], r.To[1]}] = rune(r.Lo)
		}
		if r.Kind != api.KMix {
			w.all = append(w.all, rune(r.Lo)-1, rune(r.Lo), rune(r.Hi), rune(r.Hi)+1)
		}
	}
	slices.Sort(w.all)
	w.all = slices.DeleteFunc(slices.Compact(w.all), func(c rune) bool { return !utf8.ValidRune(c) })
	for _, c := range w.all {
		if w.of(c).status == api.Valid && c != 0x2E {
			w.tame = append(w.tame, c)
		}
	}
	return w
}

func written(t *testing.T, name, s string) *world {
	t.Helper()
	l, at, e := table.Parse(s)
	if e != api.OK {
		t.Fatalf("%s: Parse: %v, %v", name, at, e)
	}
	return worldOf(t, name, l)
}

func houseWorld(t *testing.T) *world { t.Helper(); return worldOf(t, "house", house.Table()) }
func baseWorld(t *testing.T) *world  { t.Helper(); return written(t, "base", base) }

// of reads the records one by one; Data is not asked.
func (w *world) of(c rune) fact {
	f, ok := w.facts[c]
	if ok {
		return f
	}
	for _, r := range w.l {
		if r.Kind == api.KMix || int(c) < r.Lo || int(c) > r.Hi {
			continue
		}
		switch r.Kind {
		case api.KValid:
			f.status = api.Valid
		case api.KIgnored:
			f.status = api.Ignored
		case api.KMapped:
			f.status, f.to = api.Mapped, r.To
		case api.KShift:
			if (int(c)-r.Lo)%r.N == 0 {
				f.status, f.to = api.Mapped, []rune{r.To[0] + c - rune(r.Lo)}
			}
		case api.KDeviation:
			f.status, f.to = api.Deviation, r.To
		case api.KClass:
			f.class = r.N
		case api.KBidi:
			f.bidi = r.N
		case api.KJoin:
			f.join = r.N
		case api.KMark:
			f.mark = true
		}
	}
	f.full, _ = canon.Full(w.l, c)
	w.facts[c] = f
	return f
}

// mapped is chapter 15's step of a text.
func (w *world) mapped(s string, transitional bool) []rune {
	var x []rune
	for _, c := range s {
		switch f := w.of(c); {
		case f.status == api.Ignored:
		case f.status == api.Mapped, f.status == api.Deviation && transitional:
			x = append(x, f.to...)
		default:
			x = append(x, c)
		}
	}
	return x
}

// ordered is the normal form D, by the words of chapter 12.
func (w *world) ordered(x []rune) []rune {
	var y []rune
	for _, c := range x {
		y = append(y, w.of(c).full...)
	}
	for i := 0; i < len(y); {
		row := i
		for row < len(y) && w.of(y[row]).class != 0 {
			row++
		}
		slices.SortStableFunc(y[i:row], func(a, b rune) int { return w.of(a).class - w.of(b).class })
		i = row + 1
	}
	return y
}

// normal is the normal form C, by the words of chapter 13.
func (w *world) normal(x []rune) []rune {
	var y []rune
	for _, c := range w.ordered(x) {
		last := len(y) - 1
		for last >= 0 && w.of(y[last]).class != 0 {
			last--
		}
		blocks := func(m rune) bool { return w.of(m).class >= w.of(c).class }
		if last >= 0 && !slices.ContainsFunc(y[last+1:], blocks) {
			if whole, ok := w.pairs[[2]rune{y[last], c}]; ok {
				y[last] = whole
				continue
			}
		}
		y = append(y, c)
	}
	return y
}

// The rules of the chapters 16 to 18, of labels as spelt spells them.
var (
	fromRight   = regexp.MustCompile(`^[ra][ranesctobm]*$`)
	endsRight   = regexp.MustCompile(`[raen]m*$`)
	bothDigits  = regexp.MustCompile(`e.*n|n.*e`)
	fromLeft    = regexp.MustCompile(`^l[lesctobm]*$`)
	endsLeft    = regexp.MustCompile(`[le]m*$`)
	aheadJoins  = regexp.MustCompile(`[ld]t*$`)
	behindJoins = regexp.MustCompile(`^t*[rd]`)
	badHyphens  = regexp.MustCompile(`(?s)^-|-$|^..--`)
	badSTD3     = regexp.MustCompile(`[\x00-,./:-` + "`" + `{-\x7F]`)
)

func (w *world) spelt(x string, letter func(f fact) byte) string {
	var s []byte
	for _, c := range x {
		s = append(s, letter(w.of(c)))
	}
	return string(s)
}

func (w *world) directions(x string) string {
	return w.spelt(x, func(f fact) byte { return "lranesctobm"[f.bidi] })
}

func (w *world) badBidi(x string) bool {
	s := w.directions(x)
	right := fromRight.MatchString(s) && endsRight.MatchString(s) && !bothDigits.MatchString(s)
	left := fromLeft.MatchString(s) && endsLeft.MatchString(s)
	return !right && !left
}

func (w *world) badJoiner(x string) bool {
	s, y := w.spelt(x, func(f fact) byte { return "urldct"[f.join] }), []rune(x)
	for i, c := range y {
		if c != 0x200C && c != 0x200D || i > 0 && w.of(y[i-1]).class == 9 {
			continue
		}
		if c == 0x200D || !aheadJoins.MatchString(s[:i]) || !behindJoins.MatchString(s[i+1:]) {
			return true
		}
	}
	return false
}

// wrong is what chapter 18 says of a label.
func (w *world) wrong(x string, flags int, rtl, decoded bool) api.Errs {
	if x == "" {
		return 0
	}
	var set api.Errs
	tell := func(e api.Errs, asked, bad bool) {
		if asked && bad {
			set |= e
		}
	}
	has := func(flag int) bool { return flags&flag == flag }
	first, _ := utf8.DecodeRuneInString(x)
	takesDeviations := !has(api.Transitional) || decoded
	badStatus := func(c rune) bool {
		n := w.of(c).status
		return n != api.Valid && !(n == api.Deviation && takesDeviations)
	}
	tell(api.NotNFC, true, string(w.normal([]rune(x))) != x)
	tell(api.BadHyphen, has(api.CheckHyphens), badHyphens.MatchString(x))
	tell(api.BadPrefix, !has(api.CheckHyphens), strings.HasPrefix(x, "xn--"))
	tell(api.BadDot, true, strings.Contains(x, "."))
	tell(api.BadMark, true, w.of(first).mark)
	tell(api.BadStatus, true, strings.ContainsFunc(x, badStatus))
	tell(api.BadSTD3, has(api.UseSTD3), badSTD3.MatchString(x))
	tell(api.BadJoiner, has(api.CheckJoiners), w.badJoiner(x))
	tell(api.BadBidi, has(api.CheckBidi) && rtl, w.badBidi(x))
	return set
}

const digits = "abcdefghijklmnopqrstuvwxyz0123456789"

func threshold(k, bias int) int { return min(max(36*k-bias, 1), 26) }

// nextBias is 11.1.
func nextBias(delta, points int, first bool) int {
	if first {
		delta /= 700
	} else {
		delta /= 2
	}
	k := 0
	for delta += delta / points; delta > 455; delta /= 35 {
		k += 36
	}
	return k + 36*delta/(delta+38)
}

// decoded is what Punycode tells of a text (11.3), and whether it takes it.
func decoded(s string) ([]rune, bool) {
	if len(s) > 65536 || strings.ContainsFunc(s, func(c rune) bool { return c >= 0x80 }) {
		return nil, false
	}
	var x []rune
	last := strings.LastIndex(s, "-")
	if last <= 0 {
		last = -1
	} else {
		x = []rune(s[:last])
	}
	n, i, bias := 0x80, 0, 72
	numbers := strings.ToLower(s[last+1:])
	for first := true; numbers != ""; first = false {
		delta, weight := 0, 1
		for k := 1; ; k++ {
			if numbers == "" {
				return nil, false
			}
			d := strings.IndexByte(digits, numbers[0])
			numbers = numbers[1:]
			if d < 0 {
				return nil, false
			}
			delta += d * weight
			if d < threshold(k, bias) {
				break
			}
			weight = min(weight*(36-threshold(k, bias)), 1<<40)
		}
		h := len(x) + 1
		i += delta
		n += i / h
		i %= h
		if delta > 1<<31-1 || n > 0x10FFFF || n >= 0xD800 && n <= 0xDFFF {
			return nil, false
		}
		x = slices.Insert(x, i, rune(n))
		bias = nextBias(delta, h, first)
		i++
	}
	return x, true
}

// encoded is a sequence in Punycode (11.2), and whether there is such. It counts the states that are passed by till a point
// is put in, a state being a code point and a place.
func encoded(x []rune) (string, bool) {
	var b []byte
	for _, c := range x {
		if c < 0x80 {
			b = append(b, byte(c))
		}
	}
	laid := len(b)
	if laid > 0 {
		b = append(b, '-')
	}
	others := slices.DeleteFunc(slices.Clone(x), func(c rune) bool { return c < 0x80 })
	slices.Sort(others)
	passed, bias, first, n := 0, 72, true, rune(0x80)
	for _, next := range slices.Compact(others) {
		passed += int(next-n) * (laid + 1)
		for _, c := range x {
			if c < next {
				passed++
			}
			if c != next {
				continue
			}
			if passed > 1<<31-1 {
				return "", false
			}
			b = append(b, number(passed, bias)...)
			laid++
			bias, first, passed = nextBias(passed, laid, first), false, 0
		}
		n = next + 1
		passed++
	}
	return string(b), true
}

// number is a value written with a bias.
func number(value, bias int) []byte {
	var b []byte
	for k := 1; ; k++ {
		t := threshold(k, bias)
		if value < t {
			return append(b, digits[value])
		}
		b = append(b, digits[t+(value-t)%(36-t)])
		value = (value - t) / (36 - t)
	}
}

func isASCII(s string) bool {
	return !strings.ContainsFunc(s, func(c rune) bool { return c >= 0x80 })
}

// part is a label in UTF-8, and what came of reading it.
type part struct {
	text             string
	decoded, refused bool
}

// process is 19.2: the labels in UTF-8, and the set.
func (w *world) process(s string, flags int) ([]string, api.Errs) {
	if len(s) > 16384 {
		return nil, api.TooLong
	}
	if !utf8.ValidString(s) {
		return nil, api.BadEncoding
	}
	x := w.mapped(s, flags&api.Transitional != 0)
	if len(x) > 65536 {
		return nil, api.TooLong
	}
	var parts []part
	var labels []string
	var set api.Errs
	for _, l := range strings.Split(string(w.normal(x)), ".") {
		p := part{text: l}
		if behind, ok := strings.CutPrefix(l, "xn--"); ok {
			y, ok := decoded(behind)
			switch {
			case !ok:
				p.refused, set = true, set|api.BadPunycode
			case isASCII(string(y)):
				p.refused, set = true, set|api.BadPlain
			default:
				p.decoded, p.text = true, string(y)
			}
		}
		parts, labels = append(parts, p), append(labels, p.text)
	}
	if len(strings.Join(labels, ".")) > 16384 {
		return nil, api.TooLong
	}
	rtl := slices.ContainsFunc(labels, func(l string) bool { return strings.ContainsAny(w.directions(l), "ran") })
	for _, p := range parts {
		if !p.refused {
			set |= w.wrong(p.text, flags, rtl, p.decoded)
		}
	}
	return labels, set
}

// carry is 19.4 of what Process tells.
func (w *world) carry(labels []string, set api.Errs, flags int) (string, api.Errs) {
	if set&(api.TooLong|api.BadEncoding) != 0 {
		return "", set
	}
	verify := flags&api.VerifyDNS != 0
	var texts []string
	for _, l := range labels {
		if isASCII(l) {
			texts = append(texts, l)
		} else if p, ok := encoded([]rune(l)); ok {
			texts = append(texts, "xn--"+p)
		} else {
			texts, set = append(texts, ""), set|api.BadOverflow
			continue
		}
		if n := len(texts[len(texts)-1]); verify && (n < 1 || n > 63) {
			set |= api.BadLabel
		}
	}
	a := strings.Join(texts, ".")
	if verify && (len(a) < 1 || len(a) > 253) {
		set |= api.BadDomain
	}
	if len(a) > 16384 {
		set |= api.TooLong
	}
	if set != 0 {
		a = ""
	}
	return a, set
}
