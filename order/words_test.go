package order_test

import (
	"math"
	"math/rand/v2"
	"slices"
	"testing"

	"endonym/api"
	"endonym/canon"
	"endonym/house"
	"endonym/table"
	"endonym/ucd"
)

const base = "valid 61..7A\nvalid 30..39\nvalid 2D..2E\n"

// ranks is a table with the least and the greatest classes, with neighbours among them, with several marks of one class,
// and with numbers that open to marks alone, to marks ahead of a starter, and behind one.
const ranks = base + "class 300 1\nclass 301 2\nclass 302 127\nclass 303 128\nclass 304 253\nclass 305 254\nclass 306..308 230\n" +
	"class D800..D801 7\nclass 10FFFF 9\n" +
	"opens 310 301 305\nclass 311 5\nopens 311 300 302\nopens 312 61 305\nopens 313 305 61\nclass 313 3\nopens 314 313\ndecomp 315 61 301\nopens 316 300\nclass 317 200\nopens 317 62\nopens 318 312 313\n"

// world is a right table, compiled and as its records say it.
type world struct {
	name    string
	d       *ucd.Data
	l       []api.Record
	classes map[rune]int
	fulls   map[rune][]rune
}

func worldOf(t *testing.T, name string, l []api.Record) *world {
	t.Helper()
	d, at, e := ucd.Compile(l)
	if e != api.OK {
		t.Fatalf("%s: Compile: %d, %v", name, at, e)
	}
	return &world{name, d, l, map[rune]int{}, map[rune][]rune{}}
}

func written(t *testing.T, name, s string) *world {
	t.Helper()
	l, at, e := table.Parse(s)
	if e != api.OK {
		t.Fatalf("%s: Parse: %v, %v", name, at, e)
	}
	return worldOf(t, name, l)
}

func houseWorld(t *testing.T) *world { t.Helper(); return worldOf(t, "house", house.Table()) }
func rankWorld(t *testing.T) *world  { t.Helper(); return written(t, "ranks", ranks) }
func baseWorld(t *testing.T) *world  { t.Helper(); return written(t, "base", base) }

func (w *world) class(c rune) int {
	n, ok := w.classes[c]
	if !ok {
		n = canon.Class(w.l, c)
		w.classes[c] = n
	}
	return n
}

func (w *world) full(c rune) []rune {
	x, ok := w.fulls[c]
	if !ok {
		x, _ = canon.Full(w.l, c)
		w.fulls[c] = x
	}
	return x
}

func (w *world) opened(x []rune) []rune {
	var y []rune
	for _, c := range x {
		y = append(y, w.full(c)...)
	}
	return y
}

// ordered goes by the words of 12.2: each longest row, and of it the marks of the first class, of the next, and so on.
func (w *world) ordered(x []rune) []rune {
	var y []rune
	for len(x) > 0 {
		row := slices.IndexFunc(x, func(c rune) bool { return w.class(c) == 0 })
		if row < 0 {
			row = len(x)
		}
		for class := 1; class <= 254; class++ {
			for _, c := range x[:row] {
				if w.class(c) == class {
					y = append(y, c)
				}
			}
		}
		if x = x[row:]; len(x) > 0 {
			y, x = append(y, x[0]), x[1:]
		}
	}
	return y
}

// swapped is another way to the same order: two neighbours that fall are exchanged, till none do.
func (w *world) swapped(x []rune) []rune {
	y := slices.Clone(x)
	for at := w.falls(y); at >= 0; at = w.falls(y) {
		y[at], y[at+1] = y[at+1], y[at]
	}
	return y
}

// falls is the first place at which a mark stands ahead of one whose class is below; -1, if there is none.
func (w *world) falls(x []rune) int {
	for i := 1; i < len(x); i++ {
		if a, b := w.class(x[i-1]), w.class(x[i]); a > b && b != 0 {
			return i - 1
		}
	}
	return -1
}

func (w *world) normal(x []rune) []rune { return w.ordered(w.opened(x)) }

// noPoints are numbers that are no code points.
var noPoints = []rune{math.MinInt32, -0x110000, -0xAC01, -0x300, -5, -1, 0x110000, 0x110300, 0x11AC01, 0x200300, 1 << 30, math.MaxInt32}

// alphabet is what is told apart in a table, a number each: starters, marks, what opens, Hangul, what is no code point.
func (w *world) alphabet() []rune {
	x := []rune{0, 0x61, 0x62, 0x7F, 0x1100, 0x1112, 0x1161, 0x11A8, 0xAC00, 0xAC01, 0xAC1C, 0xD7A3, 0xD7A4, 0xD800, 0xDFFF, 0x10FFFF, -5, -1, 0x110000, math.MinInt32, math.MaxInt32}
	for _, r := range w.l {
		if r.Kind == api.KClass || r.Kind == api.KDecomp || r.Kind == api.KOpens {
			x = append(x, rune(r.Lo), rune(r.Hi))
			x = append(x, r.To...)
		}
	}
	slices.Sort(x)
	return slices.Compact(x)
}

// drawnOf is a sequence of at most most numbers, with rows of marks in it.
func (w *world) drawnOf(draw *rand.Rand, from []rune, most int) []rune {
	x := make([]rune, draw.IntN(most+1))
	marks := slices.DeleteFunc(slices.Clone(from), func(c rune) bool { return w.class(c) == 0 })
	thick := draw.IntN(4)
	for i := range x {
		x[i] = from[draw.IntN(len(from))]
		if len(marks) > 0 && draw.IntN(4) < thick {
			x[i] = marks[draw.IntN(len(marks))]
		}
	}
	return x
}

// drawnWorld is a right table of classes and decompositions: what is drawn and makes it wrong is left out.
func drawnWorld(t *testing.T, draw *rand.Rand) *world {
	t.Helper()
	l, _, _ := table.Parse(base)
	pool := make([]rune, 8+draw.IntN(12))
	for i := range pool {
		pool[i] = 0x300 + rune(i)
	}
	few := 1 + draw.IntN(5)
	for _, c := range pool {
		if draw.IntN(3) > 0 {
			l = append(l, api.Record{Kind: api.KClass, Lo: int(c), Hi: int(c), N: 1 + draw.IntN(few)*253/few})
		}
	}
	pool = append(pool, 0x61, 0x62, 0x1100, 0xAC01)
	for range 40 {
		r := api.Record{Kind: api.KOpens, Lo: int(pool[draw.IntN(len(pool))]), To: []rune{pool[draw.IntN(len(pool))], pool[draw.IntN(len(pool))]}}
		r.Hi = r.Lo
		switch draw.IntN(3) {
		case 0:
			r.Kind = api.KDecomp
		case 1:
			r.To = r.To[:1]
		}
		grown := append(slices.Clone(l), r)
		if _, e := canon.Check(grown); e == api.OK {
			l = grown
		}
	}
	draw.Shuffle(len(l), func(i, j int) { l[i], l[j] = l[j], l[i] })
	return worldOf(t, "drawn", l)
}

// eachSequence goes through all sequences of at most most numbers of an alphabet.
func eachSequence(alphabet []rune, most int, look func(x []rune)) {
	last := [][]rune{nil}
	look(nil)
	for range most {
		var next [][]rune
		for _, x := range last {
			for _, c := range alphabet {
				y := append(slices.Clone(x), c)
				look(y)
				next = append(next, y)
			}
		}
		last = next
	}
}
