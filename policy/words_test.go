package policy_test

import (
	"math"
	"math/rand/v2"
	"slices"
	"sort"
	"strings"
	"testing"
	"unicode/utf8"

	"endonym/api"
	"endonym/canon"
	"endonym/house"
	"endonym/idna"
	"endonym/policy"
	"endonym/table"
	"endonym/ucd"
)

// The chapter word by word, over the records of a table: what a label costs is reckoned from them by canon's decompositions
// alone, and a name is shown by an engine that no policy made.

const base = "valid 61..7A\nvalid 30..39\nvalid 2D..2E\n"

// free has every code point as Valid.
const free = base + "valid 0..2C\nvalid 2F\nvalid 3A..60\nvalid 7B..10FFFF\n"

// fact is what the records say of a number.
type fact struct {
	status, class int
	script        string
	weight        float64
	like, full    []rune
}

// world is a right table, compiled and as its records say it, with an engine for each setting that a policy takes.
type world struct {
	name    string
	l       []api.Record
	d       *ucd.Data
	engines map[int]*idna.Engine
	facts   map[rune]fact
	mixes   map[[2]string]float64 // of two names in either order
	all     []rune                // numbers that the table tells apart
	tame    []rune                // those of them that may stand in a label
}

func worldOf(t *testing.T, name string, l []api.Record) *world {
	t.Helper()
	d, at, e := ucd.Compile(l)
	if e != api.OK {
		t.Fatalf("%s: Compile: %d, %v", name, at, e)
	}
	w := &world{name: name, l: l, d: d, engines: map[int]*idna.Engine{}, facts: map[rune]fact{}, mixes: map[[2]string]float64{}}
	for _, flags := range settings() {
		if w.engines[flags], e = idna.New(d, flags); e != api.OK {
			t.Fatalf("19.1: %s: New with %d: %v", name, flags, e)
		}
	}
	w.all = []rune{0, 0x2D, 0x31, 0x41, 0x5F, 0x61, 0x62, 0x7F, 0x80, 0xAC00, 0x10FFFF}
	for _, r := range l {
		if r.Kind != api.KMix {
			w.all = append(append(w.all, rune(r.Lo), rune(r.Hi)), r.To...)
			continue
		}
		narrow := float64(float32(r.Weight))
		w.mixes[[2]string{r.Name, r.Other}], w.mixes[[2]string{r.Other, r.Name}] = narrow, narrow
	}
	slices.Sort(w.all)
	w.all = slices.DeleteFunc(slices.Compact(w.all), func(c rune) bool { return !utf8.ValidRune(c) || c == 0x2E })
	for _, c := range w.all {
		if n := w.of(c).status; n == api.Valid || n == api.Deviation {
			w.tame = append(w.tame, c)
		}
	}
	return w
}

func written(t *testing.T, name, s string) *world {
	t.Helper()
	l, at, e := table.Parse(s)
	if e != api.OK {
		t.Fatalf("%s: Parse: %v, %v", name, at, e)
	}
	return worldOf(t, name, l)
}

func houseWorld(t *testing.T) *world { t.Helper(); return worldOf(t, "house", house.Table()) }
func freeWorld(t *testing.T) *world  { t.Helper(); return written(t, "free", free) }
func baseWorld(t *testing.T) *world  { t.Helper(); return written(t, "base", base) }

// settings are the flags that a policy takes.
func settings() []int {
	var l []int
	for flags := range 64 {
		if flags/16%2 == 0 {
			l = append(l, flags)
		}
	}
	return l
}

// of reads the records one by one; Data is not asked.
func (w *world) of(c rune) fact {
	f, ok := w.facts[c]
	if ok {
		return f
	}
	f.like = []rune{c}
	for _, r := range w.l {
		if r.Kind == api.KMix || int(c) < r.Lo || int(c) > r.Hi {
			continue
		}
		switch r.Kind {
		case api.KValid:
			f.status = api.Valid
		case api.KDeviation:
			f.status = api.Deviation
		case api.KClass:
			f.class = r.N
		case api.KScript:
			f.script = r.Name
		case api.KWeight:
			f.weight = float64(float32(r.Weight))
		case api.KLooks:
			f.like = r.To
		}
	}
	f.full, _ = canon.Full(w.l, c)
	w.facts[c] = f
	return f
}

// normal is the normal form D: each row of marks is sorted by the library.
func (w *world) normal(x []rune) []rune {
	var y []rune
	for _, c := range x {
		y = append(y, w.of(c).full...)
	}
	for from := 0; from < len(y); from++ {
		row := y[from:]
		if n := slices.IndexFunc(row, func(c rune) bool { return w.of(c).class == 0 }); n >= 0 {
			row = row[:n]
		}
		sort.SliceStable(row, func(i, j int) bool { return w.of(row[i]).class < w.of(row[j]).class })
		from += len(row)
	}
	return y
}

// fake is 22.3.
func (w *world) fake(x []rune) bool {
	y := w.normal(x)
	var z []rune
	for _, c := range y {
		z = append(z, w.of(c).like...)
	}
	refused := max(len(x), len(y), len(z)) > 65536
	return !refused && !isASCII(x) && isASCII(w.normal(z)) && len(z) > 0
}

func isASCII(x []rune) bool {
	for _, c := range x {
		if c < 0 || c > 127 {
			return false
		}
	}
	return true
}

// names are the scripts of x.
func (w *world) names(x []rune) []string {
	var l []string
	for _, c := range x {
		if s := w.of(c).script; s != "" && !slices.Contains(l, s) {
			l = append(l, s)
		}
	}
	sort.Strings(l)
	return l
}

// cost is 23.2.
func (w *world) cost(x []rune) float64 {
	sum := 0.0
	for _, c := range x {
		sum += w.of(c).weight
	}
	names := w.names(x)
	for i := 0; i < len(names); i++ {
		for j := i + 1; j < len(names); j++ {
			sum += w.mixes[[2]string{names[i], names[j]}]
		}
	}
	if w.fake(x) {
		sum += math.Inf(1)
	}
	return sum
}

// shown is what Show tells of a text.
type shown struct {
	text string
	n    int
	set  api.Errs
}

// show is 23.3.
func (w *world) show(t *testing.T, flags int, limit float64, s string) shown {
	t.Helper()
	a, set := w.engines[flags].ToASCII(s)
	if set != 0 {
		return shown{"", 0, set}
	}
	u, set := w.engines[flags].ToUnicode(a)
	carried, letters := strings.Split(a, "."), strings.Split(u, ".")
	if set != 0 || len(carried) != len(letters) {
		t.Fatalf("19.5: %s: %q, flags %d, is carried as %q, and that is told as %q, %d", w.name, some(s), flags, some(a), some(u), set)
	}
	most := float64(float32(limit))
	var parts []string
	n, beyond := 0, 0
	for i, label := range letters {
		x := []rune(label)
		if !isASCII(x) {
			beyond++
		}
		if isASCII(x) || w.cost(x) <= most {
			parts = append(parts, label)
		} else {
			parts = append(parts, carried[i])
			n++
		}
	}
	text := strings.Join(parts, ".")
	if len(text) > 16384 {
		return shown{a, beyond, 0}
	}
	return shown{text, n, 0}
}

// made is a policy over the world's table.
func (w *world) made(t *testing.T, flags int, limit float64) *policy.Policy {
	t.Helper()
	p, e := policy.New(w.d, flags, limit)
	if p == nil || e != api.OK {
		t.Fatalf("23.1: %s: New with %d, %v: %v", w.name, flags, limit, e)
	}
	return p
}

// some is what of a text is worth showing, few what of a sequence.
func some(s string) string { return s[:min(len(s), 60)] }

func few(x []rune) []rune { return x[:min(len(x), 16)] }

func many(n int, s string) string { return strings.Repeat(s, n) }

func points(c ...rune) []rune { return c }

// weights are drawn more often the further ahead they stand.
var weights = []float64{0, 0.25, 0.5, 1, 2, 0.1, 8, math.Inf(1), 1 << 53, 0.3, 1e16, 3, 16777217, 5e-324, 1e-45, 1e39, math.MaxFloat64, math.MaxFloat32, 1e-39}

func drawnWeight(draw *rand.Rand) float64 { return weights[draw.IntN(1+draw.IntN(len(weights)))] }

// drawnWorld is a right table's: records of all that a name's form is asked are drawn, and each that makes it wrong is left out.
func drawnWorld(t *testing.T, draw *rand.Rand) *world {
	t.Helper()
	l, _, _ := table.Parse(base + "valid E0..FF\nvalid 300..30F\nvalid AC00..AC10\n")
	pool := []rune{0x20, 0x31, 0x41, 0x42, 0x5F, 0x61, 0x62, 0x2D, 0xAC00, 0xAC01, 0x10FFFE}
	for c := range rune(12) {
		pool = append(pool, 0xE0+c, 0x300+c)
	}
	one := func() rune { return pool[draw.IntN(len(pool))] }
	keep := func(r api.Record) {
		if _, e := canon.Check(append(slices.Clone(l), r)); e == api.OK {
			l = append(l, r)
		}
	}
	name := func() string { return "S" + strings.Repeat(string(rune('a'+draw.IntN(5))), 3) }
	costly := draw.IntN(4)
	for range 60 {
		c := int(one())
		keep(api.Record{Kind: api.KScript, Lo: c, Hi: c + draw.IntN(3), Name: name()})
		keep(api.Record{Kind: api.KMix, Name: name(), Other: name(), Weight: drawnWeight(draw)})
		if draw.IntN(4) < costly {
			keep(api.Record{Kind: api.KWeight, Lo: int(one()), Hi: 0x10FFFE, Weight: drawnWeight(draw)})
		}
		c = int(one())
		keep(api.Record{Kind: api.KWeight, Lo: c, Hi: c + draw.IntN(3), Weight: drawnWeight(draw)})
	}
	for range 30 {
		c := int(one())
		to := points(one(), one())
		keep([]api.Record{
			{Kind: api.KLooks, Lo: c, Hi: c, To: to[:1+draw.IntN(2)]},
			{Kind: api.KLooks, Lo: c, Hi: c, To: points(0x61)},
			{Kind: api.KMapped, Lo: c, Hi: c, To: to},
			{Kind: api.KDeviation, Lo: c, Hi: c, To: to[:1]},
			{Kind: api.KDecomp, Lo: c, Hi: c, To: to},
			{Kind: api.KOpens, Lo: c, Hi: c, To: to[:1]},
			{Kind: api.KClass, Lo: c, Hi: c, N: 1 + draw.IntN(3)},
			{Kind: api.KIgnored, Lo: c, Hi: c},
			{Kind: api.KMark, Lo: c, Hi: c},
			{Kind: api.KBidi, Lo: c, Hi: c, N: draw.IntN(11)},
		}[draw.IntN(10)])
	}
	draw.Shuffle(len(l), func(i, j int) { l[i], l[j] = l[j], l[i] })
	return worldOf(t, "drawn", l)
}

// label is some numbers of the world: of all of them, or of a few, so that the same come again.
func (w *world) label(draw *rand.Rand, from []rune, most int) []rune {
	if draw.IntN(3) == 0 {
		from = points(from[draw.IntN(len(from))], from[draw.IntN(len(from))], 0x61)
	}
	var x []rune
	for n := draw.IntN(most + 1); len(x) < n; {
		x = append(x, from[draw.IntN(len(from))])
	}
	return x
}

// text is some labels with full stops between, now and then as they are carried, in capital letters, or with what is wrong.
func (w *world) text(draw *rand.Rand) string {
	var l []string
	for range 1 + draw.IntN(4) {
		s := string(w.label(draw, w.tame, 4))
		switch draw.IntN(12) {
		case 0:
			s = string(w.label(draw, w.all, 4))
		case 1, 2:
			s, _ = w.engines[0].ToASCII(s)
		case 3:
			s = strings.ToUpper(s)
		case 4:
			s = string(w.label(draw, points(0x61, 0x62, 0x2D, 0x31), 4))
		}
		l = append(l, s)
	}
	return strings.Join(l, ".")
}
