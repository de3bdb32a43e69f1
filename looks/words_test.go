package looks_test

import (
	"math"
	"math/rand/v2"
	"slices"
	"sort"
	"strings"
	"testing"

	"endonym/api"
	"endonym/canon"
	"endonym/house"
	"endonym/table"
	"endonym/ucd"
)

// The chapter word by word, by other ways than the program's: what the records say of each number is laid into maps, code
// point by code point, and nothing of ucd, order or scalar is asked.

const base = "valid 61..7A\nvalid 30..39\nvalid 2D..2E\n"

// twists has what looks like several, like itself, like what looks like something else; letters that open and look like
// something; what looks like marks, and marks that look like something; what looks like what opens, to 32 numbers too; and
// ASCII that looks like what is none.
const twists = base + "class 300..302 230\nclass 316 220\nclass 323 220\nclass 334 1\n" +
	"decomp E0 61 300\ndecomp 1E00 E0 301\ndecomp C5 41 30A\nclass 30A 230\nopens 212B C5\n" +
	"looks 100 61\nlooks 101 61 62\nlooks 102 61 61 61 61 61 61 61 61 61 61 61 61 61 61 61 61 61 61 61 61 61 61 61 62\n" +
	// itself, itself twice, a way of two steps, a ring, itself amid others
	"looks 103 103\nlooks 104 104 104\nlooks 105 106\nlooks 106 61\nlooks 107 108\nlooks 108 107\nlooks 109 62 109 62\n" +
	// what opens
	"looks 110 E0\nlooks 111 1E00\nlooks 112 212B\nlooks 113 AC00\nlooks 114 AC01 61\nlooks 115 1100 1161\n" +
	// what opens is not asked, what it opens to is
	"looks E0 63\nlooks AC01 63\nlooks 212B 64\nlooks 1102 117\nlooks 1163 62 62\nlooks 30A 301\n" +
	// marks: their classes want another order; behind a letter, or ahead of it
	"looks 120 300 323\nlooks 121 301 61 323\nlooks 122 334\nlooks 123 61 300\nlooks 124 300\nlooks 12E E0 323 334\n" +
	// marks themselves
	"class 125 220\nlooks 125 302\nclass 126 230\nlooks 126 61\nclass 127 230\nlooks 127 316\nclass 128 1\nlooks 128 301 334\nclass 129 220\nopens 129 323 316\nlooks 316 300\nclass 12A 230\nlooks 12A 124\n" +
	// the ends of ASCII
	"looks 130 7F\nlooks 131 80\nlooks 132 0\nlooks 7E 7F 7F\nlooks 7F 80\nlooks 81 7F\nlooks 63 430\nlooks 133 61 80\nlooks 134 80 61\nlooks 135 10FFFF\n" +
	"opens 136 61 62\nlooks 137 136\nopens 138 139\nlooks 139 65\n" +
	"looks 2000 2100\nopens 2100 2101 2101\nopens 2101 2102 2102\nopens 2102 2103 2103\nopens 2103 2104 2104\nopens 2104 302 2105\n" +
	// scripts that stand in another order than their names
	"script 61..7A Latn\nscript 430..44F Cyrl\nscript 0..1F Zzzz\nscript E0 Grek\nscript C0..DF Lato\nscript E1..FF Latm\nscript D7FF..E000 Surr\nscript 10FFFE..10FFFF Aaaa\nscript 300..323 Aaab\nscript 1E00 Latn\n"

// long is a table in which numbers look like 24 others; one of which opens to 32, another is a mark.
const long = base + "class 300 230\nclass 323 220\ndecomp E0 61 300\n" +
	"looks 100 61 62 63 64 65 66 67 68 69 6A 6B 6C 6D 6E 6F 70 71 72 73 74 75 76 77 78\nlooks 101 61 62\nlooks 102 E0\nlooks 103 2100\nlooks 104 AC01\n" +
	"looks 105 2100 2100 2100 2100 2100 2100 2100 2100 2100 2100 2100 2100 2100 2100 2100 2100 2100 2100 2100 2100 2100 2100 2100 2100\nlooks 300 323\n" +
	"opens 2100 2101 2101\nopens 2101 2102 2102\nopens 2102 2103 2103\nopens 2103 2104 2104\nopens 2104 61 62\n"

// world is a right table, compiled and as its records say it.
type world struct {
	name    string
	d       *ucd.Data
	classes map[rune]int
	opens   map[rune][]rune
	like    map[rune][]rune
	scripts map[rune]string
	named   []string // all names that it says, rising
	all     []rune   // numbers that are told apart
	ascii   []rune   // those of them that look like ASCII
}

func worldOf(t *testing.T, name string, l []api.Record) *world {
	t.Helper()
	d, at, e := ucd.Compile(l)
	if e != api.OK {
		t.Fatalf("%s: Compile: %d, %v", name, at, e)
	}
	w := &world{name: name, d: d, classes: map[rune]int{}, opens: map[rune][]rune{}, like: map[rune][]rune{}, scripts: map[rune]string{}}
	w.all = append(points(0, 0x2E, 0x61, 0x62, 0x7F, 0x80, 0x1100, 0x1161, 0x11A8, 0xAC00, 0xAC01, 0xD7A3, 0xD7A4, 0xD800, 0x10FFFF), noPoints...)
	for _, r := range l {
		w.take(r)
	}
	slices.Sort(w.all)
	w.all = slices.Compact(w.all)
	for _, c := range w.all {
		if y, _ := w.skeleton(points(c)); beyond(y) == 0 {
			w.ascii = append(w.ascii, c)
		}
	}
	sort.Strings(w.named)
	w.named = slices.Compact(w.named)
	return w
}

func (w *world) take(r api.Record) {
	for c := rune(r.Lo); c <= rune(r.Hi); c++ {
		switch r.Kind {
		case api.KClass:
			w.classes[c] = r.N
		case api.KDecomp, api.KOpens:
			w.opens[c] = r.To
		case api.KLooks:
			w.like[c] = r.To
		case api.KScript:
			w.scripts[c] = r.Name
		}
	}
	if r.Kind == api.KScript {
		w.named = append(w.named, r.Name)
	}
	if slices.Contains([]int{api.KClass, api.KDecomp, api.KOpens, api.KLooks, api.KScript}, r.Kind) {
		w.all = append(append(w.all, rune(r.Lo), rune(r.Hi)), r.To...)
	}
}

func written(t *testing.T, name, s string) *world {
	t.Helper()
	l, at, e := table.Parse(s)
	if e != api.OK {
		t.Fatalf("%s: Parse: %v, %v", name, at, e)
	}
	return worldOf(t, name, l)
}

func houseWorld(t *testing.T) *world { t.Helper(); return worldOf(t, "house", house.Table()) }
func twistWorld(t *testing.T) *world { t.Helper(); return written(t, "twists", twists) }
func longWorld(t *testing.T) *world  { t.Helper(); return written(t, "long", long) }
func baseWorld(t *testing.T) *world  { t.Helper(); return written(t, "base", base) }

// full is what a number comes to, syllables by chapter 7's reckoning.
func (w *world) full(c rune) []rune {
	if c >= 0xAC00 && c <= 0xD7A3 {
		s := c - 0xAC00
		x := points(0x1100+s/588, 0x1161+s%588/28)
		if s%28 > 0 {
			x = append(x, 0x11A7+s%28)
		}
		return x
	}
	if len(w.opens[c]) == 0 {
		return points(c)
	}
	var x []rune
	for _, to := range w.opens[c] {
		x = append(x, w.full(to)...)
	}
	return x
}

// normal is the NFD: each row of marks is sorted by the library.
func (w *world) normal(x []rune) []rune {
	var y []rune
	for _, c := range x {
		y = append(y, w.full(c)...)
	}
	for from := 0; from < len(y); from++ {
		row := y[from:]
		if n := slices.IndexFunc(row, func(c rune) bool { return w.classes[c] == 0 }); n >= 0 {
			row = row[:n]
		}
		sort.SliceStable(row, func(i, j int) bool { return w.classes[row[i]] < w.classes[row[j]] })
		from += len(row)
	}
	return y
}

// seen is what all the numbers look like, one behind the other.
func (w *world) seen(x []rune) []rune {
	var y []rune
	for _, c := range x {
		if to, ok := w.like[c]; ok {
			y = append(y, to...)
		} else {
			y = append(y, c)
		}
	}
	return y
}

func (w *world) skeleton(x []rune) ([]rune, api.Errno) {
	y := w.normal(x)
	z := w.seen(y)
	if max(len(x), len(y), len(z)) > 65536 {
		return nil, 2
	}
	return w.normal(z), 0
}

func (w *world) alike(x, y []rune) (bool, api.Errno) {
	a, e := w.skeleton(x)
	b, f := w.skeleton(y)
	if e != 0 || f != 0 {
		return false, 2
	}
	return slices.Equal(a, b), 0
}

// names goes by all names that the table says, in their order, and asks whether one of the numbers has it.
func (w *world) names(x []rune) []string {
	own := []string{}
	for _, name := range w.named {
		if slices.ContainsFunc(x, func(c rune) bool { return w.scripts[c] == name }) {
			own = append(own, name)
		}
	}
	return own
}

// fake goes by the words; a sequence that is refused is not.
func (w *world) fake(x []rune) bool {
	y, e := w.skeleton(x)
	return e == 0 && len(y) > 0 && beyond(x) > 0 && beyond(y) == 0
}

// beyond is how many are not ASCII.
func beyond(x []rune) int {
	n := 0
	for _, c := range x {
		if c < 0 || c > 127 {
			n++
		}
	}
	return n
}

// seam is whether the first number that y opens to has class 0, or y is empty.
func (w *world) seam(y []rune) bool { return len(y) == 0 || w.classes[w.full(y[0])[0]] == 0 }

// noPoints are numbers that are no code points, some of them like such as look like something.
var noPoints = []rune{math.MinInt32, -0x110000, -0xAC01, -0x430, -0x61, -5, -1, 0x110000, 0x110061, 0x110430, 0x11AC01, 0x200300, 1 << 30, math.MaxInt32}

func points(c ...rune) []rune { return c }

func many(n int, c ...rune) []rune { return slices.Repeat(c, n) }

// some is what of a sequence is worth showing.
func some(x []rune) []rune { return x[:min(len(x), 16)] }

func (w *world) drawn(draw *rand.Rand, most int) []rune {
	var x []rune
	from := w.all
	switch draw.IntN(4) {
	case 0:
		from = w.ascii
	case 1: // few, so that the same come again
		from = points(from[draw.IntN(len(from))], from[draw.IntN(len(from))], from[draw.IntN(len(from))])
	}
	for n := draw.IntN(most + 1); len(x) < n; {
		c := from[draw.IntN(len(from))]
		if draw.IntN(4) == 0 {
			x = append(x, w.full(c)...)
		} else {
			x = append(x, c)
		}
	}
	return x[:min(len(x), most)]
}

// relook is another sequence that may look like x: numbers stand for what they open to or look like, and the other way
// round, and neighbours change their places.
func (w *world) relook(draw *rand.Rand, x []rune) []rune {
	var y []rune
	for _, c := range x {
		switch {
		case draw.IntN(3) == 0:
			y = append(y, w.full(c)...)
		case draw.IntN(3) == 0:
			y = append(y, w.seen(points(c))...)
		default:
			other := w.all[draw.IntN(len(w.all))]
			if slices.Equal(w.seen(w.full(other)), w.seen(w.full(c))) || draw.IntN(40) == 0 {
				c = other
			}
			y = append(y, c)
		}
	}
	if len(y) > 1 && draw.IntN(2) == 0 {
		i := draw.IntN(len(y) - 1)
		y[i], y[i+1] = y[i+1], y[i]
	}
	return y
}

// drawnWorld is a right table's: records are drawn, and each that makes it wrong is left out.
func drawnWorld(t *testing.T, draw *rand.Rand) *world {
	t.Helper()
	l, _, _ := table.Parse(base)
	pool := points(0x61, 0x62, 0x7F, 0x80, 0x1100, 0x1161, 0x11A8, 0xAC00, 0xAC01)
	for c := range 6 + draw.IntN(14) {
		pool = append(pool, 0x300+rune(c))
	}
	one := func() rune { return pool[draw.IntN(len(pool))] }
	keep := func(r api.Record) {
		if _, e := canon.Check(append(slices.Clone(l), r)); e == api.OK {
			l = append(l, r)
		}
	}
	marks := draw.IntN(5)
	for _, c := range pool {
		if draw.IntN(5) < marks {
			keep(api.Record{Kind: api.KClass, Lo: int(c), Hi: int(c), N: 1 + 50*draw.IntN(marks)})
		}
	}
	for range 30 {
		r := api.Record{Kind: api.KDecomp, Lo: int(one()), To: points(one(), one())}
		if sort := draw.IntN(6); sort < 2 {
			r.Kind, r.To = api.KOpens, r.To[sort:]
		}
		r.Hi = r.Lo
		keep(r)
	}
	for range draw.IntN(30) {
		r := api.Record{Kind: api.KLooks, Lo: int(one())}
		for n := 1 + draw.IntN(1+draw.IntN(4)); len(r.To) < n; {
			r.To = append(r.To, one())
		}
		r.Hi = r.Lo
		keep(r)
	}
	for range draw.IntN(30) {
		lo := int(one())
		keep(api.Record{Kind: api.KScript, Lo: lo, Hi: lo + draw.IntN(1+draw.IntN(4)), Name: string(rune('A'+draw.IntN(3))) + strings.Repeat(string(rune('a'+draw.IntN(2))), 3)})
	}
	draw.Shuffle(len(l), func(i, j int) { l[i], l[j] = l[j], l[i] })
	return worldOf(t, "drawn", l)
}

// eachSequence goes through all sequences of at most most numbers of an alphabet.
func eachSequence(alphabet []rune, most int, look func(x []rune)) {
	last := [][]rune{nil}
	look(nil)
	for range most {
		var next [][]rune
		for _, x := range last {
			for _, c := range alphabet {
				y := append(slices.Clone(x), c)
				look(y)
				next = append(next, y)
			}
		}
		last = next
	}
}
