package remap_test

import (
	"math"
	"math/rand/v2"
	"slices"
	"testing"

	"endonym/api"
	"endonym/canon"
	"endonym/house"
	"endonym/remap"
	"endonym/table"
	"endonym/ucd"
)

const base = "valid 61..7A\nvalid 30..39\nvalid 2D..2E\n"

const letters24 = " 61 62 63 64 65 66 67 68 69 6A 6B 6C 6D 6E 6F 70 71 72 73 74 75 76 77 78"

// turns has what maps in unusual ways: numbers that are mapped to what is mapped or Ignored itself, to themselves, to one
// another, to themselves and what is Ignored; shifts with steps; deviations to none, to themselves, to many; spans of
// what is no scalar value; the first and the last code point.
const turns = base + "shift 41..5A 61 1\nshift 100..110 200 2\nvalid 101\nignored 103\nshift 120..17E 110 64\n" +
	"ignored AD\nignored AF..B1\nmapped C0 41 300\nmapped C1..C3 C1\nmapped C4 AD C4\nmapped C5 C6\nmapped C6 C5\nmapped C7 C8 C7\nmapped C9 61 61\n" +
	"mapped 190 190 AF\nmapped 191 2E\nmapped 2000" + letters24 + "\nvalid 2003..2005\n" +
	"deviation DF 73 73\ndeviation E0 41\ndeviation 200C\ndeviation 200D 200D\ndeviation 200E AD\ndeviation 2001" + letters24 + "\n" +
	"ignored 0\nmapped D800..D801 61\nvalid DFFF\nignored DC00\nmapped 10FFFE..10FFFF 10FFFD 0\n"

// noPoints are numbers that are no code points, some of them like such as are Ignored, Mapped or a Deviation.
var noPoints = []rune{math.MinInt32, -0xAD, -0x41, -1, 0x110000, 0x110041, 0x1100AD, 0x110103, 0x11200C, math.MaxInt32}

// settings are flags with the bit Transitional among others, and without it.
var settings = struct{ with, without []int }{
	[]int{16, 17, 31, 48, 63, 16 | 1<<40, -1, -16, -2, ^47, math.MaxInt, math.MinInt + 16},
	[]int{0, 1, 2, 4, 8, 15, 32, 47, 64, 128, 256, 1 << 20, 1 << 36, math.MaxInt - 16, -17, -32, math.MinInt},
}

// world is a table, its Data, and numbers that it tells apart.
type world struct {
	name string
	l    []api.Record
	d    *ucd.Data
	all  []rune
}

func worldOf(t *testing.T, name string, l []api.Record) *world {
	t.Helper()
	d, at, e := ucd.Compile(l)
	if e != api.OK {
		t.Fatalf("%s: Compile: %d, %v", name, at, e)
	}
	all := append(points(0, 0x2D, 0x41, 0x61, 0x7F, 0xAD, 0x3C2, 0xAC00, 0xD800, 0xDFFF, 0xFFFF, 0x10FFFF), noPoints...)
	for _, r := range l {
		if table.Family(r.Kind) == 1 {
			all = append(all, rune(r.Lo)-1, rune(r.Lo), rune(r.Lo)+1, rune(r.Hi)-1, rune(r.Hi), rune(r.Hi)+1)
			all = append(all, r.To...)
		}
	}
	slices.Sort(all)
	return &world{name, l, d, slices.Compact(all)}
}

func written(t *testing.T, name, s string) *world {
	t.Helper()
	l, at, e := table.Parse(s)
	if e != api.OK {
		t.Fatalf("%s: Parse: %v, %v", name, at, e)
	}
	return worldOf(t, name, l)
}

func houseWorld(t *testing.T) *world { t.Helper(); return worldOf(t, "house", house.Table()) }
func turnWorld(t *testing.T) *world  { t.Helper(); return written(t, "turns", turns) }
func baseWorld(t *testing.T) *world  { t.Helper(); return written(t, "base", base) }

// drawnWorld is a right table's: records are drawn, and each that makes it wrong is left out.
func drawnWorld(t *testing.T, draw *rand.Rand) *world {
	t.Helper()
	l, _, _ := table.Parse(base)
	pool := points(0x61, 0x2E, 0, 0xD800, 0x10FFFE)
	for c := range 10 + draw.IntN(20) {
		pool = append(pool, 0x300+rune(c))
	}
	scalars := slices.Concat(pool[:3], pool[4:])
	one := func(from []rune) rune { return from[draw.IntN(len(from))] }
	for range 40 {
		c := int(one(pool))
		r := api.Record{Kind: api.KValid + draw.IntN(5), Lo: c, Hi: min(c+draw.IntN(3), api.MaxRune)}
		switch r.Kind {
		case api.KMapped:
			r.To = several(1+draw.IntN(3), func() rune { return one(scalars) })
		case api.KShift:
			r.Hi = min(c+draw.IntN(20), api.MaxRune)
			r.N, r.To = 1+draw.IntN(4), points(one(scalars))
		case api.KDeviation:
			r.Hi, r.To = c, several(draw.IntN(4), func() rune { return one(scalars) })
		}
		if _, e := canon.Check(append(slices.Clone(l), r)); e == api.OK {
			l = append(l, r)
		}
	}
	draw.Shuffle(len(l), func(i, j int) { l[i], l[j] = l[j], l[i] })
	return worldOf(t, "drawn", l)
}

func several(n int, one func() rune) []rune {
	var x []rune
	for range n {
		x = append(x, one())
	}
	return x
}

func (w *world) drawn(draw *rand.Rand, most int) []rune {
	return several(draw.IntN(most+1), func() rune { return w.all[draw.IntN(len(w.all))] })
}

// one is what the records say that a number comes to, asked one by one and not by Data.
func (w *world) one(c rune, transitional bool) []rune {
	for _, r := range w.l {
		if table.Family(r.Kind) != 1 || int(c) < r.Lo || int(c) > r.Hi || r.Kind == api.KShift && (int(c)-r.Lo)%r.N > 0 {
			continue
		}
		switch {
		case r.Kind == api.KIgnored:
			return nil
		case r.Kind == api.KShift:
			return points(r.To[0] + c - rune(r.Lo))
		case r.Kind == api.KMapped || r.Kind == api.KDeviation && transitional:
			return r.To
		}
	}
	return points(c)
}

func (w *world) whole(x []rune, transitional bool) []rune {
	var all []rune
	for _, c := range x {
		all = append(all, w.one(c, transitional)...)
	}
	return all
}

// check holds all four calls against what the records say of x.
func (w *world) check(t *testing.T, x []rune, flags int, transitional bool) {
	t.Helper()
	for _, c := range x {
		if y, want := remap.One(w.d, c, flags), w.one(c, transitional); !slices.Equal(y, want) {
			t.Errorf("15.1: %s: One of %X, %d: %X, want %X", w.name, c, flags, y, want)
		}
	}
	want, wanted := w.whole(x, transitional), api.OK
	settled := slices.Equal(x, want) && len(want) <= api.MaxPoints
	if len(want) > api.MaxPoints {
		want, wanted = nil, api.ErrLong
	}
	checkMap(t, w.d, x, flags, want, wanted)
	if remap.Settled(w.d, x, flags) != settled {
		t.Errorf("15.3: %s: Settled of %d, %X, %d: want %t", w.name, len(x), some(x), flags, settled)
	}
	w.checkParts(t, x, flags, transitional)
}

// checkParts wants one range to hand out each number and its One.
func (w *world) checkParts(t *testing.T, x []rune, flags int, transitional bool) {
	t.Helper()
	at := 0
	for c, y := range remap.Parts(w.d, x, flags) {
		if at == len(x) {
			t.Fatalf("15.3: %s: Parts of %d, %X, %d: more than there are", w.name, len(x), some(x), flags)
		}
		if want := w.one(x[at], transitional); c != x[at] || !slices.Equal(y, want) {
			t.Errorf("15.3: %s: Parts of %d, %X, %d: at %d: %X, %X, want %X, %X", w.name, len(x), some(x), flags, at, c, y, x[at], want)
		}
		at++
	}
	if at != len(x) {
		t.Errorf("15.3: %s: Parts of %d, %X, %d: %d of them", w.name, len(x), some(x), flags, at)
	}
}

// checkBoth holds the calls against the records for x with Transitional and without it.
func (w *world) checkBoth(t *testing.T, draw *rand.Rand, x []rune) {
	t.Helper()
	w.check(t, x, settings.with[draw.IntN(len(settings.with))], true)
	w.check(t, x, settings.without[draw.IntN(len(settings.without))], false)
}

// checkBehind wants Map of x and y, one behind the other, to be the one's and the other's.
func (w *world) checkBehind(t *testing.T, x, y []rune, flags int) {
	t.Helper()
	first, e := remap.Map(w.d, x, flags)
	if e != api.OK {
		t.Errorf("15.4: %s: Map of %d, %X, %d: %d", w.name, len(x), some(x), flags, int(e))
	}
	second, e := remap.Map(w.d, y, flags)
	if e != api.OK {
		t.Errorf("15.4: %s: Map of %d, %X, %d: %d", w.name, len(y), some(y), flags, int(e))
	}
	want, wanted := slices.Concat(first, second), api.OK
	if len(want) > api.MaxPoints {
		want, wanted = nil, api.ErrLong
	}
	checkMap(t, w.d, slices.Concat(x, y), flags, want, wanted)
}
