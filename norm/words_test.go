package norm_test

import (
	"math"
	"math/rand/v2"
	"slices"
	"testing"

	"endonym/api"
	"endonym/canon"
	"endonym/house"
	"endonym/order"
	"endonym/table"
	"endonym/ucd"
)

const base = "valid 61..7A\nvalid 30..39\nvalid 2D..2E\n"

// bonds is a table of what composes in unusual ways: marks of one class one after the other, starters with starters, a
// number with itself, Hangul with what is none; numbers that begin with one that may compose with what is ahead; numbers
// that open as others do which compose, to one, to marks, a mark that opens to a starter.
const bonds = base + "class 300..303 230\nclass 323..324 220\nclass 327 202\nclass 345 240\nclass 334 1\nclass 358 254\n" +
	"decomp E0 61 300\ndecomp E1 61 301\ndecomp 1E00 E0 301\ndecomp 1E01 E1 300\ndecomp 1E02 61 323\ndecomp 1E03 1E02 300\ndecomp 1E04 61 345\ndecomp 1E05 62 334\ndecomp 1E06 62 358\n" +
	"decomp 2002 2000 2001\ndecomp 2005 2001 2004\ndecomp 2006 2005 300\ndecomp 2007 2002 2003\ndecomp 2008 2007 300\ndecomp 200B 2009 2009\ndecomp 200C 200B 2009\ndecomp 200D E0 2003\ndecomp 200E 200D 323\n" +
	"decomp 2020 AC00 300\ndecomp 2021 AC01 11A8\ndecomp 2022 61 1161\ndecomp 2023 1100 323\ndecomp 2024 11A8 1161\ndecomp 2025 D7A3 2003\n" +
	"opens 2030 61 300\nopens 2031 1100 1161\nopens 2032 E0\nopens 2033 300\nopens 2034 2001\nclass 2035 220\nopens 2035 61\nclass 2036 230\nopens 2036 300\nopens 2037 2000 2003\nopens 2038 2037 2001\nopens 2039 323 300\nopens 203A 2031 11A8\n"

// world is a right table, compiled and as its records say it.
type world struct {
	name    string
	d       *ucd.Data
	l       []api.Record
	classes map[rune]int
	opens   map[rune][]rune
	fulls   map[rune][]rune
	pairs   map[[2]rune]rune // what composes
	seconds map[rune]bool
}

func worldOf(t *testing.T, name string, l []api.Record) *world {
	t.Helper()
	d, at, e := ucd.Compile(l)
	if e != api.OK {
		t.Fatalf("%s: Compile: %d, %v", name, at, e)
	}
	w := &world{name, d, l, map[rune]int{}, map[rune][]rune{}, map[rune][]rune{}, map[[2]rune]rune{}, map[rune]bool{}}
	for c := rune(0xAC00); c <= 0xD7A3; c++ {
		w.pair(c, nil)
	}
	for _, r := range l {
		if r.Kind == api.KDecomp {
			w.pair(rune(r.Lo), []api.Record{r})
		}
	}
	return w
}

func (w *world) pair(c rune, l []api.Record) {
	a, b, _ := canon.Primary(l, c)
	w.pairs[[2]rune{a, b}] = c
	w.seconds[b] = true
}

func written(t *testing.T, name, s string) *world {
	t.Helper()
	l, at, e := table.Parse(s)
	if e != api.OK {
		t.Fatalf("%s: Parse: %v, %v", name, at, e)
	}
	return worldOf(t, name, l)
}

func houseWorld(t *testing.T) *world { t.Helper(); return worldOf(t, "house", house.Table()) }
func bondWorld(t *testing.T) *world  { t.Helper(); return written(t, "bonds", bonds) }
func baseWorld(t *testing.T) *world  { t.Helper(); return written(t, "base", base) }

func (w *world) class(c rune) int {
	n, ok := w.classes[c]
	if !ok {
		n = canon.Class(w.l, c)
		w.classes[c] = n
	}
	return n
}

func (w *world) open(c rune) []rune {
	x, ok := w.opens[c]
	if !ok {
		x = canon.Open(w.l, c)
		w.opens[c] = x
	}
	return x
}

func (w *world) full(c rune) []rune {
	x, ok := w.fulls[c]
	if !ok {
		x, _ = canon.Full(w.l, c)
		w.fulls[c] = x
	}
	return x
}

// decomposed is NFD, without the package that has it.
func (w *world) decomposed(x []rune) []rune {
	var y []rune
	for _, c := range x {
		y = append(y, w.full(c)...)
	}
	for i := 0; i < len(y); {
		row := i
		for row < len(y) && w.class(y[row]) != 0 {
			row++
		}
		slices.SortStableFunc(y[i:row], func(a, b rune) int { return w.class(a) - w.class(b) })
		i = row + 1
	}
	return y
}

// composed goes by the words of 13.1: at each number all that there is is looked through.
func (w *world) composed(x []rune) []rune {
	var y []rune
	for _, c := range x {
		last := len(y) - 1
		for last >= 0 && w.class(y[last]) != 0 {
			last--
		}
		if last >= 0 && !slices.ContainsFunc(y[last+1:], func(m rune) bool { return w.class(m) >= w.class(c) }) {
			if whole, ok := w.pairs[[2]rune{y[last], c}]; ok {
				y[last] = whole
				continue
			}
		}
		y = append(y, c)
	}
	return y
}

func (w *world) normal(x []rune) []rune { return w.composed(w.decomposed(x)) }

// breaks is whether a number opens and does not compose again.
func (w *world) breaks(c rune) bool {
	switch to := w.open(c); len(to) {
	case 0:
		return false
	case 2:
		return w.pairs[[2]rune{to[0], to[1]}] != c
	}
	return true
}

func (w *world) sorted(x []rune) bool {
	for i := 1; i < len(x); i++ {
		if a, b := w.class(x[i-1]), w.class(x[i]); a > b && b != 0 {
			return false
		}
	}
	return true
}

// quick goes by the words of 13.3.
func (w *world) quick(x []rune) int {
	switch {
	case slices.ContainsFunc(x, w.breaks) || !w.sorted(x):
		return api.No
	case slices.ContainsFunc(x, func(c rune) bool { return w.seconds[w.full(c)[0]] }):
		return api.Maybe
	}
	return api.Yes
}

func (w *world) safe(c rune) bool { return w.quick(points(c)) == api.Yes && w.class(c) == 0 }

// noPoints are numbers that are no code points, some of them like such as compose.
var noPoints = []rune{math.MinInt32, -0x110000, -0xAC01, -0x300, -5, -1, 0x110000, 0x110061, 0x110300, 0x111161, 0x11AC00, 0x200300, 1 << 30, math.MaxInt32}

// alphabet is what is told apart in a table, a number each: starters, marks, what opens, Hangul, what is no code point.
func (w *world) alphabet() []rune {
	x := []rune{0, 0x2E, 0x61, 0x62, 0x7F, 0x10FF, 0x1100, 0x1112, 0x1113, 0x1161, 0x1175, 0x1176, 0x11A7, 0x11A8, 0x11C2, 0x11C3, 0xABFF, 0xAC00, 0xAC01, 0xAC1C, 0xD788, 0xD7A3, 0xD7A4, 0xD800, 0x10FFFF, -5, -1, 0x110000, 0x110300, math.MinInt32, math.MaxInt32}
	for _, r := range w.l {
		if r.Kind == api.KClass || r.Kind == api.KDecomp || r.Kind == api.KOpens {
			x = append(x, rune(r.Lo), rune(r.Hi))
			x = append(x, r.To...)
		}
	}
	slices.Sort(x)
	return slices.Compact(x)
}

// drawnOf is a sequence of at most most numbers: some of them as they come from others that open.
func (w *world) drawnOf(draw *rand.Rand, from []rune, most int) []rune {
	var x []rune
	for n := draw.IntN(most + 1); len(x) < n; {
		c := from[draw.IntN(len(from))]
		switch draw.IntN(4) {
		case 0:
			x = append(x, w.full(c)...)
		case 1:
			x = append(x, w.shaken(draw, w.full(c))...)
		default:
			x = append(x, c)
		}
	}
	return x[:min(len(x), most)]
}

// shaken exchanges some neighbours that are marks, of unlike classes.
func (w *world) shaken(draw *rand.Rand, x []rune) []rune {
	y := slices.Clone(x)
	for range len(y) {
		if i := draw.IntN(len(y)); i > 0 {
			if a, b := w.class(y[i-1]), w.class(y[i]); a != 0 && b != 0 && a != b {
				y[i-1], y[i] = y[i], y[i-1]
			}
		}
	}
	return y
}

// alike is another sequence that is canonically alike: some numbers are opened, a step or fully, and marks exchanged.
func (w *world) alike(draw *rand.Rand, x []rune) []rune {
	var y []rune
	for _, c := range x {
		to := points(c)
		switch {
		case draw.IntN(3) == 0:
			to = w.full(c)
		case draw.IntN(2) == 0 && len(w.open(c)) > 0:
			to = w.open(c)
		}
		y = append(y, to...)
	}
	if slices.ContainsFunc(y, func(c rune) bool { return w.class(c) != 0 && len(w.open(c)) > 0 }) {
		return y
	}
	return w.shaken(draw, y)
}

// drawnWorld is a right table of classes and decompositions: what is drawn and makes it wrong is left out.
func drawnWorld(t *testing.T, draw *rand.Rand) *world {
	t.Helper()
	l, _, _ := table.Parse(base)
	pool := make([]rune, 8+draw.IntN(16))
	for i := range pool {
		pool[i] = 0x300 + rune(i)
	}
	few, starters := 1+draw.IntN(5), 1+draw.IntN(4)
	for _, c := range pool {
		if draw.IntN(5) >= starters {
			l = append(l, api.Record{Kind: api.KClass, Lo: int(c), Hi: int(c), N: 1 + draw.IntN(few)*253/few})
		}
	}
	pool = append(pool, 0x61, 0x62, 0x1100, 0x1161, 0xAC00, 0xAC01, 0x11A8)
	for range 60 {
		r := api.Record{Kind: api.KDecomp, Lo: int(pool[draw.IntN(len(pool))]), To: []rune{pool[draw.IntN(len(pool))], pool[draw.IntN(len(pool))]}}
		r.Hi = r.Lo
		switch draw.IntN(6) {
		case 0:
			r.Kind = api.KOpens
		case 1:
			r.Kind, r.To = api.KOpens, r.To[:1]
		}
		grown := append(slices.Clone(l), r)
		if _, e := canon.Check(grown); e == api.OK {
			l = grown
		}
	}
	draw.Shuffle(len(l), func(i, j int) { l[i], l[j] = l[j], l[i] })
	return worldOf(t, "drawn", l)
}

// eachSequence goes through all sequences of at most most numbers of an alphabet.
func eachSequence(alphabet []rune, most int, look func(x []rune)) {
	last := [][]rune{nil}
	look(nil)
	for range most {
		var next [][]rune
		for _, x := range last {
			for _, c := range alphabet {
				y := append(slices.Clone(x), c)
				look(y)
				next = append(next, y)
			}
		}
		last = next
	}
}

// The words over the records stand beside order's NFD, so that what is held against them is held against chapter 12.
func TestWordsAreOrders(t *testing.T) {
	draw := rand.New(rand.NewPCG(13, 9))
	for _, w := range []*world{houseWorld(t), bondWorld(t), baseWorld(t)} {
		all := append(w.alphabet(), noPoints...)
		for range 500 {
			x := w.drawnOf(draw, all, 12)
			if y, e := order.NFD(w.d, x); !slices.Equal(y, w.decomposed(x)) || e != api.OK {
				t.Fatalf("%s: NFD(%X): %X, by the words %X", w.name, x, y, w.decomposed(x))
			}
			if same, _ := order.Same(w.d, x, w.alike(draw, x)); !same {
				t.Fatalf("%s: %X and what is made alike", w.name, x)
			}
		}
	}
}
