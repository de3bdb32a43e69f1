package label_test

import (
	"math"
	"math/rand/v2"
	"regexp"
	"slices"
	"strings"
	"testing"

	"endonym/api"
	"endonym/canon"
	"endonym/house"
	"endonym/label"
	"endonym/norm"
	"endonym/table"
	"endonym/ucd"
)

const base = "valid 61..7A\nvalid 30..39\nvalid 2D..2E\n"

// seats has numbers of which one thing alone is wrong: nearly all are Valid; 100 to 107 are of the other statuses, 108 and
// 109 Deviations; marks are with and without a class, and some with a class are no marks.
const seats = base + "valid 0..2C\nvalid 2F\nvalid 3A..60\nvalid 7B..FF\nignored 101\nmapped 102 61\nshift 103..107 200 2\ndeviation 108 61\ndeviation 109\nvalid 10A..10FFFF\n" +
	"class 300..303 230\nclass 323 220\nclass 94D 9\nclass 94E 8\nmark 300..301\nmark 400\nmark 94D\nmark 7A\nmark 10FFFF\n" +
	"decomp E0 61 300\ndecomp E1 61 302\ndecomp 9CB 9C7 9BE\nopens 1F0 61 300\nopens 1F1 62\nopens 1F2 300\n" +
	"bidi 5D0 R\nbidi 628 AL\nbidi 660 AN\nbidi 30..39 EN\nbidi 2D ES\nbidi 2E CS\nbidi 300..303 NSM\nbidi 240 ON\n" +
	"join 628 D\njoin 627 R\njoin 626 L\njoin 300..303 T\njoin 200D C\n"

// nine is all that Check tells of a label, if there is Data.
const nine = api.NotNFC | api.BadHyphen | api.BadPrefix | api.BadDot | api.BadMark | api.BadStatus | api.BadSTD3 | api.BadJoiner | api.BadBidi

// noPoints are numbers that are no code points, some of them like such as something is wrong with.
var noPoints = []rune{math.MinInt32, math.MinInt32 + 0x61, -0x110000, -0x300, -0x2E, -0x2D, -2, -1, 0x110000, 0x11002D, 0x11002E, 0x110061, 0x110300, 0x11200C, 0x1105D0, 1 << 30, math.MaxInt32}

// fact is what the records say of a number.
type fact struct {
	status, class, bidi, join int
	mark                      bool
	full                      []rune
}

// world is a right table, compiled and as its records say it.
type world struct {
	name  string
	l     []api.Record
	d     *ucd.Data
	facts map[rune]fact
	pairs map[[2]rune]rune // what composes
	all   []rune           // numbers that the table tells apart
	tame  []rune           // those of them that are Valid, and no full stop
}

func worldOf(t *testing.T, name string, l []api.Record) *world {
	t.Helper()
	d, at, e := ucd.Compile(l)
	if e != api.OK {
		t.Fatalf("%s: Compile: %d, %v", name, at, e)
	}
	w := &world{name: name, l: l, d: d, facts: map[rune]fact{}, pairs: map[[2]rune]rune{}}
	for c := rune(0xAC00); c <= 0xD7A3; c++ {
		a, b, _ := canon.Primary(nil, c)
		w.pairs[[2]rune{a, b}] = c
	}
	w.all = append(points(0, 0x2D, 0x2E, 0x5F, 0x61, 0x62, 0x78, 0x6E, 0x7F, 0x80, 0x1100, 0x1161, 0x11A8, 0xAC00, 0xAC01, 0x200B, 0x200C, 0x200D, 0xD800, 0xFFFF, 0x10FFFF), noPoints...)
	for _, r := range l {
		if r.Kind == api.KDecomp {
			w.pairs[[2]rune{r.To[0], r.To[1]}] = rune(r.Lo)
		}
		if r.Kind != api.KMix {
			w.all = append(w.all, rune(r.Lo)-1, rune(r.Lo), rune(r.Hi), rune(r.Hi)+1)
		}
	}
	slices.Sort(w.all)
	w.all = slices.Compact(w.all)
	for _, c := range w.all {
		if w.of(c).status == api.Valid && c != 0x2E {
			w.tame = append(w.tame, c)
		}
	}
	return w
}

func written(t *testing.T, name, s string) *world {
	t.Helper()
	l, at, e := table.Parse(s)
	if e != api.OK {
		t.Fatalf("%s: Parse: %v, %v", name, at, e)
	}
	return worldOf(t, name, l)
}

func houseWorld(t *testing.T) *world { t.Helper(); return worldOf(t, "house", house.Table()) }
func seatWorld(t *testing.T) *world  { t.Helper(); return written(t, "seats", seats) }
func baseWorld(t *testing.T) *world  { t.Helper(); return written(t, "base", base) }

// of reads the records one by one; Data is not asked.
func (w *world) of(c rune) fact {
	f, ok := w.facts[c]
	if ok {
		return f
	}
	for _, r := range w.l {
		if r.Kind == api.KMix || int(c) < r.Lo || int(c) > r.Hi {
			continue
		}
		switch r.Kind {
		case api.KValid:
			f.status = api.Valid
		case api.KIgnored:
			f.status = api.Ignored
		case api.KMapped:
			f.status = api.Mapped
		case api.KShift:
			if (int(c)-r.Lo)%r.N == 0 {
				f.status = api.Mapped
			}
		case api.KDeviation:
			f.status = api.Deviation
		case api.KClass:
			f.class = r.N
		case api.KBidi:
			f.bidi = r.N
		case api.KJoin:
			f.join = r.N
		case api.KMark:
			f.mark = true
		}
	}
	f.full, _ = canon.Full(w.l, c)
	w.facts[c] = f
	return f
}

// normal is the normal form C by the words of the chapters 12 and 13.
func (w *world) normal(x []rune) []rune {
	var opened, y []rune
	for _, c := range x {
		opened = append(opened, w.of(c).full...)
	}
	for i := 0; i < len(opened); {
		row := i
		for row < len(opened) && w.of(opened[row]).class != 0 {
			row++
		}
		slices.SortStableFunc(opened[i:row], func(a, b rune) int { return w.of(a).class - w.of(b).class })
		i = row + 1
	}
	for _, c := range opened {
		last := len(y) - 1
		for last >= 0 && w.of(y[last]).class != 0 {
			last--
		}
		blocks := func(m rune) bool { return w.of(m).class >= w.of(c).class }
		if last >= 0 && !slices.ContainsFunc(y[last+1:], blocks) {
			if whole, ok := w.pairs[[2]rune{y[last], c}]; ok {
				y[last] = whole
				continue
			}
		}
		y = append(y, c)
	}
	return y
}

// The rules of the chapters 16 and 17, of labels as spelt spells them.
var (
	fromRight   = regexp.MustCompile(`^[ra][ranesctobm]*$`)
	endsRight   = regexp.MustCompile(`[raen]m*$`)
	bothDigits  = regexp.MustCompile(`e.*n|n.*e`)
	fromLeft    = regexp.MustCompile(`^l[lesctobm]*$`)
	endsLeft    = regexp.MustCompile(`[le]m*$`)
	aheadJoins  = regexp.MustCompile(`[ld]t*$`)
	behindJoins = regexp.MustCompile(`^t*[rd]`)
)

func (w *world) spelt(x []rune, letter func(f fact) byte) string {
	s := make([]byte, 0, len(x))
	for _, c := range x {
		s = append(s, letter(w.of(c)))
	}
	return string(s)
}

func (w *world) badBidi(x []rune) bool {
	s := w.spelt(x, func(f fact) byte { return "lranesctobm"[f.bidi] })
	right := fromRight.MatchString(s) && endsRight.MatchString(s) && !bothDigits.MatchString(s)
	left := fromLeft.MatchString(s) && endsLeft.MatchString(s)
	return !right && !left
}

func (w *world) badJoiner(x []rune) bool {
	s := w.spelt(x, func(f fact) byte { return "urldct"[f.join] })
	for i, c := range x {
		if c != 0x200C && c != 0x200D || i > 0 && w.of(x[i-1]).class == 9 {
			continue
		}
		if c == 0x200D || !aheadJoins.MatchString(s[:i]) || !behindJoins.MatchString(s[i+1:]) {
			return true
		}
	}
	return false
}

// ascii is a label as a text: what is below 0 is a nought byte there, what is from 80 on an é.
func ascii(x []rune) string {
	y := make([]rune, 0, len(x))
	for _, c := range x {
		if c >= 0x80 {
			c = 0xE9
		}
		y = append(y, max(c, 0))
	}
	return string(y)
}

var (
	badHyphens = regexp.MustCompile(`(?s)^-|-$|^..--`)
	badSTD3    = regexp.MustCompile(`[^a-z0-9é-]`)
)

// wrong is what the chapter says of a label.
func (w *world) wrong(x []rune, flags int, rtl, decoded bool) api.Errs {
	if len(x) == 0 {
		return 0
	}
	var set api.Errs
	tell := func(e api.Errs, asked, bad bool) {
		if asked && bad {
			set |= e
		}
	}
	s := ascii(x)
	has := func(flag int) bool { return flags&flag == flag }
	takesDeviations := !has(api.Transitional) || decoded
	badStatus := func(c rune) bool {
		n := w.of(c).status
		return n != api.Valid && !(n == api.Deviation && takesDeviations)
	}
	tell(api.NotNFC, true, len(x) > 65536 || !slices.Equal(w.normal(x), x))
	tell(api.BadHyphen, has(api.CheckHyphens), badHyphens.MatchString(s))
	tell(api.BadPrefix, !has(api.CheckHyphens), strings.HasPrefix(s, "xn--"))
	tell(api.BadDot, true, strings.Contains(s, "."))
	tell(api.BadMark, true, w.of(x[0]).mark)
	tell(api.BadStatus, true, slices.ContainsFunc(x, badStatus))
	tell(api.BadSTD3, has(api.UseSTD3), badSTD3.MatchString(s))
	tell(api.BadJoiner, has(api.CheckJoiners), w.badJoiner(x))
	tell(api.BadBidi, has(api.CheckBidi) && rtl, w.badBidi(x))
	return set
}

// check holds all three calls against what the records say.
func (w *world) check(t *testing.T, x []rune, flags int, rtl, decoded bool) api.Errs {
	t.Helper()
	set, want := label.Check(w.d, x, flags, rtl, decoded), w.wrong(x, flags, rtl, decoded)
	if set != want {
		t.Errorf("18.2: %s: Check of %d, %X, flags %d, %t, %t: %d, want %d", w.name, len(x), some(x), flags, rtl, decoded, set, want)
	}
	s := ascii(x)
	if plain := !strings.ContainsRune(s, 0xE9) && !badSTD3.MatchString(s); label.LDH(x) != plain {
		t.Errorf("18.1: LDH of %d, %X: want %t", len(x), some(x), plain)
	}
	if coded := strings.HasPrefix(s, "xn--"); label.Coded(x) != coded {
		t.Errorf("18.1: Coded of %d, %X: want %t", len(x), some(x), coded)
	}
	return set
}

// checkPromises holds a label against 18.3, and what it says of flags also of rtl and decoded.
func (w *world) checkPromises(t *testing.T, x []rune, flags int, rtl, decoded bool) {
	t.Helper()
	set := label.Check(w.d, x, flags, rtl, decoded)
	lost := func(what string, with, let api.Errs) {
		if set&^with&^let != 0 {
			t.Errorf("18.3: %s: Check of %X, flags %d, %t, %t: %d; with %s %d: something is lost", w.name, some(x), flags, rtl, decoded, set, what, with)
		}
	}
	lost("CheckHyphens", label.Check(w.d, x, flags|api.CheckHyphens, rtl, decoded), api.BadPrefix)
	lost("CheckBidi", label.Check(w.d, x, flags|api.CheckBidi, rtl, decoded), 0)
	lost("CheckJoiners", label.Check(w.d, x, flags|api.CheckJoiners, rtl, decoded), 0)
	lost("UseSTD3", label.Check(w.d, x, flags|api.UseSTD3, rtl, decoded), 0)
	lost("VerifyDNS", label.Check(w.d, x, flags|api.VerifyDNS, rtl, decoded), 0)
	lost("rtl", label.Check(w.d, x, flags, true, decoded), 0)
	if with := label.Check(w.d, x, flags, rtl, true); with&^set != 0 {
		t.Errorf("18.2: %s: Check of %X, flags %d, %t, %t: %d; decoded %d: something comes", w.name, some(x), flags, rtl, decoded, set, with)
	}
	if set&^nine != 0 {
		t.Errorf("18.2: %s: Check of %X: %d, more than the nine", w.name, some(x), set)
	}
	if set == 0 {
		w.checkFit(t, x)
	}
}

// checkFit wants of a label whose set is empty what 18.3 says of such.
func (w *world) checkFit(t *testing.T, x []rune) {
	t.Helper()
	if is, e := norm.Is(w.d, x); !is || e != api.OK || !slices.Equal(w.normal(x), x) {
		t.Errorf("18.3: %s: the set of %X is empty, and it is not its own NFC", w.name, some(x))
	}
	if slices.Contains(x, 0x2E) || label.Coded(x) || strings.HasPrefix(ascii(x), "xn--") {
		t.Errorf("18.3: %s: the set of %X is empty, and it has a full stop or is Coded", w.name, some(x))
	}
}

// drawnWorld is a right table's: records of all that a label is asked are drawn, and each that makes it wrong is left out.
func drawnWorld(t *testing.T, draw *rand.Rand) *world {
	t.Helper()
	l, _, _ := table.Parse(base)
	pool := []int{0x20, 0x2C, 0x2D, 0x2E, 0x31, 0x41, 0x5F, 0x61, 0x78, 0x6E, 0x80, 0x94D, 0x1100, 0x1161, 0xAC00, 0x200B, 0x200C, 0x200D, 0xD800, 0x10FFFE}
	for c := range 8 + draw.IntN(16) {
		pool = append(pool, 0x300+c)
	}
	one := func() int { return pool[draw.IntN(len(pool))] }
	kinds := []int{api.KValid, api.KValid, api.KValid, api.KIgnored, api.KMapped, api.KShift, api.KDeviation, api.KClass, api.KClass, api.KDecomp, api.KDecomp, api.KOpens, api.KBidi, api.KBidi, api.KBidi, api.KJoin, api.KJoin, api.KJoin, api.KMark}
	for range 90 {
		c := one()
		r := api.Record{Kind: kinds[draw.IntN(len(kinds))], Lo: c, Hi: min(c+draw.IntN(4), api.MaxRune)}
		switch r.Kind {
		case api.KMapped:
			r.To = points(0x61, 0x62)
		case api.KShift:
			r.N, r.To = 1+draw.IntN(2), points(0x400)
		case api.KDeviation:
			r.Hi = r.Lo
		case api.KClass:
			r.N = []int{9, 9, 8, 10, 220, 230}[draw.IntN(6)]
		case api.KDecomp, api.KOpens:
			r.Hi, r.To = r.Lo, points(rune(one()), rune(one()))
		case api.KBidi:
			r.N = draw.IntN(11)
		case api.KJoin:
			r.N = []int{api.JoinU, api.JoinR, api.JoinL, api.JoinD, api.JoinD, api.JoinC, api.JoinT, api.JoinT}[draw.IntN(8)]
		}
		if _, e := canon.Check(append(slices.Clone(l), r)); e == api.OK {
			l = append(l, r)
		}
	}
	draw.Shuffle(len(l), func(i, j int) { l[i], l[j] = l[j], l[i] })
	return worldOf(t, "drawn", l)
}

// drawn is a label: some of whatever there is, some with little that is wrong, some with joiners, hyphens or xn-- ahead.
func (w *world) drawn(draw *rand.Rand, most int) []rune {
	from := w.tame
	if draw.IntN(3) == 0 {
		from = w.all
	}
	var x []rune
	for range draw.IntN(most + 1) {
		switch draw.IntN(24) {
		case 0:
			x = append(x, w.all[draw.IntN(len(w.all))])
		case 1:
			x = append(x, rune(0x200C+draw.IntN(2)))
		case 2:
			x = append(x, 0x2D, 0x2D)
		default:
			x = append(x, from[draw.IntN(len(from))])
		}
	}
	if draw.IntN(3) != 0 {
		x = w.normal(x)
	}
	switch draw.IntN(10) {
	case 0:
		x = append(points(0x78, 0x6E, 0x2D, 0x2D), x...)
	case 1:
		x = append(x, 0x2D)
	case 2:
		x = append(points(0x2D), x...)
	case 3:
		x = slices.Insert(x, draw.IntN(len(x)+1), 0x2E)
	}
	return x
}
