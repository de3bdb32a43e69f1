package joiner_test

import (
	"math"
	"math/rand/v2"
	"slices"
	"testing"

	"endonym/api"
	"endonym/canon"
	"endonym/house"
	"endonym/joiner"
	"endonym/table"
	"endonym/ucd"
)

const base = "valid 61..7A\nvalid 30..39\nvalid 2D..2E\n"

// seats has numbers of each joining type (250 to 255, and at the ends), of the classes round 9 and at the ends (180 to
// 185), and viramas of each type (190 to 195); 200C and 200D are not spoken of.
const seats = base + "join 250 U\njoin 251 R\njoin 252 L\njoin 253 D\njoin 254 C\njoin 255..257 T\n" +
	"class 180 8\nclass 181 10\nclass 182 1\nclass 183 254\nclass 184 18\nclass 185 109\n" +
	"class 190..195 9\njoin 190 U\njoin 191 R\njoin 192 L\njoin 193 D\njoin 194 C\njoin 195 T\n" +
	"class 256 9\nclass 257 230\njoin 0 D\njoin 62 L\njoin D800 D\njoin DFFF T\nclass DC00 9\njoin 10FFFF R\nclass 10FFFF 9\n"

// typed are numbers of seats by their type, starters all of them.
var typed = [6]rune{api.JoinU: 0x250, api.JoinR: 0x251, api.JoinL: 0x252, api.JoinD: 0x253, api.JoinC: 0x254, api.JoinT: 0x255}

// viramas are those of seats by their type.
var viramas = [6]rune{api.JoinU: 0x190, api.JoinR: 0x191, api.JoinL: 0x192, api.JoinD: 0x193, api.JoinC: 0x194, api.JoinT: 0x195}

// noPoints are numbers that are no code points, some of them like joiners, viramas or what joins.
var noPoints = []rune{math.MinInt32, -0x200C, -0x200D, -0x94D, -1, 0x110000, 0x11200C, 0x11200D, 0x110253, 0x110193, 0x100200C, math.MinInt32 + 0x200C, math.MaxInt32}

// world is a table, its Data, and numbers that it tells apart.
type world struct {
	name string
	l    []api.Record
	d    *ucd.Data
	all  []rune
}

func worldOf(t *testing.T, name string, l []api.Record) *world {
	t.Helper()
	d, at, e := ucd.Compile(l)
	if e != api.OK {
		t.Fatalf("%s: Compile: %d, %v", name, at, e)
	}
	all := append(points(0, 0x2D, 0x61, 0x200B, 0x200C, 0x200D, 0x200E, 0xD800, 0xFFFF, 0x10FFFF), noPoints...)
	for _, r := range l {
		if r.Kind == api.KClass || r.Kind == api.KJoin {
			all = append(all, rune(r.Lo)-1, rune(r.Lo), rune(r.Hi), rune(r.Hi)+1)
		}
	}
	slices.Sort(all)
	return &world{name, l, d, slices.Compact(all)}
}

func written(t *testing.T, name, s string) *world {
	t.Helper()
	l, at, e := table.Parse(s)
	if e != api.OK {
		t.Fatalf("%s: Parse: %v, %v", name, at, e)
	}
	return worldOf(t, name, l)
}

func houseWorld(t *testing.T) *world { t.Helper(); return worldOf(t, "house", house.Table()) }
func seatWorld(t *testing.T) *world  { t.Helper(); return written(t, "seats", seats) }
func baseWorld(t *testing.T) *world  { t.Helper(); return written(t, "base", base) }

// drawnWorld is a right table's: records are drawn, those of the joiners among them, and each that makes it wrong is left out.
func drawnWorld(t *testing.T, draw *rand.Rand) *world {
	t.Helper()
	l, _, _ := table.Parse(base)
	pool := points(0x61, 0x200B, 0x200C, 0x200D, 0xD800, 0x10FFFE)
	for c := range 5 + draw.IntN(10) {
		pool = append(pool, 0x300+rune(2*c))
	}
	kinds := []int{api.KClass, api.KClass, api.KJoin, api.KJoin, api.KJoin, api.KJoin, api.KValid, api.KIgnored, api.KBidi, api.KMark}
	for range 60 {
		c := int(pool[draw.IntN(len(pool))])
		r := api.Record{Kind: kinds[draw.IntN(len(kinds))], Lo: c, Hi: min(c+draw.IntN(3), api.MaxRune)}
		switch r.Kind {
		case api.KClass:
			r.N = []int{8, 9, 9, 9, 9, 10, 230}[draw.IntN(7)]
		case api.KJoin:
			r.N = []int{api.JoinU, api.JoinR, api.JoinL, api.JoinD, api.JoinD, api.JoinC, api.JoinT, api.JoinT, api.JoinT}[draw.IntN(9)]
		case api.KBidi:
			r.N = draw.IntN(11)
		}
		if _, e := canon.Check(append(slices.Clone(l), r)); e == api.OK {
			l = append(l, r)
		}
	}
	draw.Shuffle(len(l), func(i, j int) { l[i], l[j] = l[j], l[i] })
	return worldOf(t, "drawn", l)
}

// drawn is a sequence with joiners, and with rows of T at either side of them.
func (w *world) drawn(draw *rand.Rand, most int) []rune {
	through := slices.DeleteFunc(slices.Clone(w.all), func(c rune) bool { return w.join(c) != api.JoinT })
	var x []rune
	for range draw.IntN(most + 1) {
		switch k := draw.IntN(6); {
		case k == 0:
			x = append(x, 0x200C)
		case k == 1:
			x = append(x, 0x200D)
		case k < 4 && len(through) > 0:
			x = append(x, through[draw.IntN(len(through))])
		default:
			x = append(x, w.all[draw.IntN(len(w.all))])
		}
	}
	return x
}

// said is N of the record of a kind that speaks of c, asked one by one and not by Data.
func (w *world) said(kind int, c rune) int {
	for _, r := range w.l {
		if r.Kind == kind && r.Lo <= int(c) && int(c) <= r.Hi {
			return r.N
		}
	}
	return 0
}

func (w *world) class(c rune) int { return w.said(api.KClass, c) }
func (w *world) join(c rune) int  { return w.said(api.KJoin, c) }

// fits is what the chapter says of a place of x: what is T is taken out of both sides, and the numbers that are left next to it are asked.
func (w *world) fits(x []rune, i int) bool {
	if x[i] != 0x200C && x[i] != 0x200D || i > 0 && w.class(x[i-1]) == 9 {
		return true
	}
	through := func(c rune) bool { return w.join(c) == api.JoinT }
	left := slices.DeleteFunc(slices.Clone(x[:i]), through)
	right := slices.DeleteFunc(slices.Clone(x[i+1:]), through)
	if x[i] == 0x200D || len(left) == 0 || len(right) == 0 {
		return false
	}
	a, b := w.join(left[len(left)-1]), w.join(right[0])
	return (a == api.JoinL || a == api.JoinD) && (b == api.JoinR || b == api.JoinD)
}

// check holds both calls against what the records say of x.
func (w *world) check(t *testing.T, x []rune) {
	t.Helper()
	first := -1
	for i := range x {
		fits := w.fits(x, i)
		if joiner.Fits(w.d, x, i) != fits {
			t.Errorf("16.1: %s: Fits of %d, %X, %d: want %t", w.name, len(x), some(x), i, fits)
		}
		if !fits && first < 0 {
			first = i
		}
	}
	if at := joiner.Check(w.d, x); at != first {
		t.Errorf("16.2: %s: Check of %d, %X: %d, want %d", w.name, len(x), some(x), at, first)
	}
}

// checkShort checks all sequences of up to most numbers of an alphabet.
func (w *world) checkShort(t *testing.T, most int, alphabet ...rune) {
	t.Helper()
	var each func(x []rune)
	each = func(x []rune) {
		w.check(t, x)
		if len(x) < most {
			for _, c := range alphabet {
				each(append(slices.Clone(x), c))
			}
		}
	}
	each(nil)
}

// checkNoMatter wants that a joiner's answer is the same where all is drawn anew but what 16.3 names: the number ahead of
// it, and of 200C the nearest numbers at either side that are not T.
func (w *world) checkNoMatter(t *testing.T, draw *rand.Rand, x []rune) {
	t.Helper()
	for i, c := range x {
		if c != 0x200C && c != 0x200D {
			continue
		}
		fits := joiner.Fits(w.d, x, i)
		for range 4 {
			y, at := w.another(draw, x, i)
			if joiner.Fits(w.d, y, at) != fits {
				t.Errorf("16.3: %s: Fits of %X, %d: %t, but not of %X, %d", w.name, x, i, fits, y, at)
			}
		}
	}
}

// another is a sequence with the same joiner in the same neighbourhood, and the place of that joiner.
func (w *world) another(draw *rand.Rand, x []rune, i int) ([]rune, int) {
	if x[i] == 0x200D {
		ahead := x[max(i-1, 0):i]
		if i > 0 {
			ahead = append(w.drawn(draw, 5), ahead...)
		}
		return slices.Concat(ahead, x[i:i+1], w.drawn(draw, 5)), len(ahead)
	}
	notT := func(c rune) bool { return w.join(c) != api.JoinT }
	through := slices.DeleteFunc(slices.Clone(w.all), notT)
	row := func(most int) []rune {
		if len(through) == 0 {
			return nil
		}
		return several(draw.IntN(most+1), func() rune { return through[draw.IntN(len(through))] })
	}
	var ahead []rune
	last := i - 1
	for last >= 0 && !notT(x[last]) {
		last--
	}
	if last >= 0 {
		ahead = append(w.drawn(draw, 5), x[last])
	}
	if last < i-1 {
		ahead = slices.Concat(ahead, row(4), x[i-1:i])
	}
	behind := row(4)
	if next := slices.IndexFunc(x[i+1:], notT); next >= 0 {
		behind = slices.Concat(behind, x[i+1+next:i+2+next], w.drawn(draw, 5))
	}
	return slices.Concat(ahead, x[i:i+1], behind), len(ahead)
}

func several(n int, one func() rune) []rune {
	var x []rune
	for range n {
		x = append(x, one())
	}
	return x
}
