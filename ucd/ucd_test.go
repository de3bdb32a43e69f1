package ucd_test

import (
	"fmt"
	"math"
	"math/rand/v2"
	"slices"
	"strings"
	"testing"

	"endonym/api"
	"endonym/canon"
	"endonym/table"
	"endonym/trie"
	"endonym/ucd"
)

const base = "valid 61..7A\nvalid 30..39\nvalid 2D..2E\n"

func read(t *testing.T, s string) []api.Record {
	t.Helper()
	l, at, e := table.Parse(s)
	if e != api.OK {
		t.Fatalf("Parse of %q: %v, %v", s, at, e)
	}
	return l
}

// shown is a list as a text, if it has one.
func shown(l []api.Record) string {
	if s, e := table.Print(l); e == api.OK {
		return s
	}
	return fmt.Sprintf("%+v", l)
}

// take compiles a list that must be right.
func take(t *testing.T, l []api.Record) *ucd.Data {
	t.Helper()
	d, at, e := ucd.Compile(l)
	if d == nil || at != 0 || e != api.OK {
		t.Fatalf("9.1: Compile(%s): %p, %d, %d", shown(l), d, at, e)
	}
	return d
}

func compile(t *testing.T, s string) *ucd.Data {
	t.Helper()
	return take(t, read(t, base+s))
}

// noPoints are numbers that are no code points, and the ends of those that a rune may hold.
var noPoints = []rune{math.MinInt32, math.MinInt32 + 1, -0x110000, -0xAC00, -0x1161, -0x300, -0x61, -1, 0x110000, 0x110001, 0x110061, 0x110300, 0x200000, 1 << 30, math.MaxInt32 - 1, math.MaxInt32}

// hangulEdges are the numbers on both sides of where jamo and syllables begin and end, and syllables with t = 0 and others.
var hangulEdges = []rune{0x10FF, 0x1100, 0x1101, 0x1111, 0x1112, 0x1113, 0x1160, 0x1161, 0x1162, 0x1174, 0x1175, 0x1176, 0x11A6, 0x11A7, 0x11A8, 0x11A9, 0x11C1, 0x11C2, 0x11C3, 0xABE4, 0xABFF, 0xAC00, 0xAC01, 0xAC1B, 0xAC1C, 0xAC1D, 0xAE4B, 0xAE4C, 0xD787, 0xD788, 0xD789, 0xD7A2, 0xD7A3, 0xD7A4, 0xD7BF, 0xD7C0}

// syllables is chapter 7's rule: what each syllable opens to.
var syllables = func() map[rune][]rune {
	all := map[rune][]rune{}
	at := func(l, v, t rune) rune { return 0xAC00 + (21*l+v)*28 + t }
	for l := range rune(19) {
		for v := range rune(21) {
			all[at(l, v, 0)] = []rune{0x1100 + l, 0x1161 + v}
			for t := rune(1); t <= 27; t++ {
				all[at(l, v, t)] = []rune{at(l, v, 0), 0x11A7 + t}
			}
		}
	}
	return all
}()

// made is the same rule, the other way.
var made = func() map[[2]rune]rune {
	all := map[[2]rune]rune{}
	for c, to := range syllables {
		all[[2]rune{to[0], to[1]}] = c
	}
	return all
}()

// speaks is chapter 6's word, of records that are right.
func speaks(r api.Record, c rune) bool {
	n := int(c)
	return r.Kind != api.KMix && n >= 0 && n <= 0x10FFFF && r.Lo <= n && n <= r.Hi && (r.Kind != api.KShift || (n-r.Lo)%r.N == 0)
}

// said is the record of one of the kinds that speaks of c, or an empty one.
func said(l []api.Record, c rune, kinds ...int) api.Record {
	for _, r := range l {
		if slices.Contains(kinds, r.Kind) && speaks(r, c) {
			return r
		}
	}
	return api.Record{}
}

// answers is what the calls and, where a test asks them, the five tries tell of a number.
type answers struct {
	status     int
	mapping    []rune
	class      int
	open, full []rune
	second     bool
	bidi, join int
	mark       bool
	script     string
	looks      []rune
	weight     uint64
	tries      [5]int
}

func asked(d *ucd.Data, c rune) answers {
	return answers{
		status: d.Status(c), mapping: d.Mapping(c), class: d.Class(c), open: d.Open(c), full: d.Full(c), second: d.Second(c),
		bidi: d.Bidi(c), join: d.Join(c), mark: d.Mark(c), script: d.Script(c), looks: d.Looks(c), weight: api.Bits(d.Weight(c)),
	}
}

func alike(a, b answers) bool {
	lists := slices.Equal(a.mapping, b.mapping) && slices.Equal(a.open, b.open) && slices.Equal(a.full, b.full) && slices.Equal(a.looks, b.looks)
	return lists && a.status == b.status && a.class == b.class && a.second == b.second && a.bidi == b.bidi && a.join == b.join &&
		a.mark == b.mark && a.script == b.script && a.weight == b.weight && a.tries == b.tries
}

func modelStatus(l []api.Record, c rune) (int, []rune) {
	r := said(l, c, api.KValid, api.KIgnored, api.KMapped, api.KShift, api.KDeviation)
	switch r.Kind {
	case api.KValid:
		return 1, nil
	case api.KIgnored:
		return 2, nil
	case api.KMapped:
		return 3, r.To
	case api.KShift:
		return 3, []rune{r.To[0] + c - rune(r.Lo)}
	case api.KDeviation:
		return 4, r.To
	}
	return 0, nil
}

func modelOpen(l []api.Record, c rune) []rune {
	if to := syllables[c]; to != nil {
		return to
	}
	return said(l, c, api.KDecomp, api.KOpens).To
}

func modelFull(l []api.Record, c rune) []rune {
	x := []rune{c}
	for at := 0; at < len(x); {
		if to := modelOpen(l, x[at]); len(to) > 0 {
			x = slices.Concat(x[:at], to, x[at+1:])
		} else {
			at++
		}
	}
	return x
}

func modelCompose(l []api.Record, a, b rune) (rune, bool) {
	if c, ok := made[[2]rune{a, b}]; ok {
		return c, true
	}
	for _, r := range l {
		if r.Kind == api.KDecomp && slices.Equal(r.To, []rune{a, b}) {
			return rune(r.Lo), true
		}
	}
	return 0, false
}

func modelSecond(l []api.Record, c rune) bool {
	if c >= 0x1161 && c <= 0x1175 || c >= 0x11A8 && c <= 0x11C2 {
		return true
	}
	return slices.ContainsFunc(l, func(r api.Record) bool { return r.Kind == api.KDecomp && r.To[1] == c })
}

// model is what the chapter says of a number, word by word.
func model(l []api.Record, c rune) answers {
	a := answers{
		class: said(l, c, api.KClass).N, open: modelOpen(l, c), full: modelFull(l, c), second: modelSecond(l, c),
		bidi: said(l, c, api.KBidi).N, join: said(l, c, api.KJoin).N, mark: said(l, c, api.KMark).Kind != 0,
		script: said(l, c, api.KScript).Name, looks: said(l, c, api.KLooks).To,
		weight: api.Bits(float64(float32(said(l, c, api.KWeight).Weight))),
	}
	a.status, a.mapping = modelStatus(l, c)
	if len(a.looks) == 0 {
		a.looks = []rune{c}
	}
	return a
}

func modelMix(l []api.Record, a, b string) float64 {
	for _, r := range l {
		if r.Kind == api.KMix && (r.Name == a && r.Other == b || r.Name == b && r.Other == a) {
			return float64(float32(r.Weight))
		}
	}
	return 0
}

// tried is the tries of the five properties.
func tried(d *ucd.Data) [5]*trie.Trie {
	return [5]*trie.Trie{d.Trie(1), d.Trie(2), d.Trie(3), d.Trie(4), d.Trie(5)}
}

func triesAt(tries [5]*trie.Trie, c int) [5]int {
	var x [5]int
	for i, t := range tries {
		x[i] = t.Get(c)
	}
	return x
}

// props is what the five tries must tell of a number of which the calls tell that.
func props(a answers) [5]int {
	x := [5]int{a.status, a.class, a.bidi, a.join, 0}
	if a.mark {
		x[4] = 1
	}
	return x
}

// check holds all that is told of a number against the records.
func check(t *testing.T, d *ucd.Data, l []api.Record, c rune) {
	t.Helper()
	got, want := asked(d, c), model(l, c)
	got.tries, want.tries = triesAt(tried(d), int(c)), props(want)
	if !alike(got, want) {
		t.Fatalf("9.2 to 9.6: of %X in %s:\n%+v, want\n%+v", c, shown(l), got, want)
	}
	full, e := canon.Full(l, c)
	if got.class != canon.Class(l, c) || !slices.Equal(got.open, canon.Open(l, c)) || !slices.Equal(got.full, full) || e != api.OK {
		t.Fatalf("9.3: of %X in %s: not canon's: %d, %X, %X", c, shown(l), got.class, got.open, got.full)
	}
}

func checkCompose(t *testing.T, d *ucd.Data, l []api.Record, a, b rune) {
	t.Helper()
	got, ok := d.Compose(a, b)
	if want, is := modelCompose(l, a, b); got != want || ok != is {
		t.Fatalf("9.3: Compose(%X, %X): %X, %v, want %X, %v", a, b, got, ok, want, is)
	}
}

// edges are the numbers of a table, and those beside them.
func edges(l []api.Record) []rune {
	x := slices.Concat(noPoints, hangulEdges, []rune{0, 1, 0x2C, 0x2D, 0x2E, 0x2F, 0x3F, 0x40, 0x7F, 0x80, 0xD7FF, 0xD800, 0xDFFF, 0xE000, 0xFFFF, 0x10000, 0x10FFFE, 0x10FFFF})
	for _, r := range l {
		step := max(r.N, 1)
		middle := r.Lo + (r.Hi-r.Lo)/2/step*step
		for _, c := range []int{r.Lo, r.Lo + step, middle, r.Hi - step, r.Hi} {
			x = append(x, rune(c-1), rune(c), rune(c+1))
		}
		x = append(x, r.To...)
	}
	slices.Sort(x)
	return slices.Compact(x)
}

// checkAll holds a right table's Data against its records, at all of its edges.
func checkAll(t *testing.T, l []api.Record) {
	t.Helper()
	d := take(t, l)
	for _, c := range edges(l) {
		check(t, d, l, c)
	}
	var firsts, seconds []rune
	names := []string{"", "Latn", "Zzzz"}
	for _, r := range l {
		if r.Kind == api.KDecomp || r.Kind == api.KOpens {
			firsts, seconds = append(firsts, rune(r.Lo), r.To[0]), append(seconds, rune(r.Lo), r.To[len(r.To)-1])
		}
		names = append(names, r.Name, r.Other)
	}
	for _, a := range firsts {
		for _, b := range slices.Concat(seconds, firsts) {
			checkCompose(t, d, l, a, b)
		}
	}
	for _, a := range names {
		for _, b := range names {
			if got, want := d.Mix(a, b), modelMix(l, a, b); api.Bits(got) != api.Bits(want) {
				t.Fatalf("9.5: Mix(%q, %q) of %s: %v, want %v", a, b, shown(l), got, want)
			}
		}
	}
}

func TestExamples(t *testing.T) {
	d := compile(t, "shift 41..5A 61 1\ndeviation DF 73 73\ndecomp C0 41 300\nclass 300 230\nweight 61 0.1\n")
	if x := []int{d.Status(0x41), d.Status(0xDF), d.Status(0x61), d.Status(-1)}; !slices.Equal(x, []int{3, 4, 1, 0}) {
		t.Errorf("9.2: Status: %d", x)
	}
	if x, y := d.Mapping(0x43), d.Mapping(0xDF); !slices.Equal(x, []rune{0x63}) || !slices.Equal(y, []rune{0x73, 0x73}) {
		t.Errorf("9.2: Mapping: %X, %X", x, y)
	}
	for _, c := range [][3]rune{{0x41, 0x300, 0xC0}, {0x1100, 0x1161, 0xAC00}, {0xAC00, 0x11A8, 0xAC01}, {0xAC01, 0x11A8, 0}} {
		if x, ok := d.Compose(c[0], c[1]); x != c[2] || ok != (c[2] != 0) {
			t.Errorf("9.3: Compose(%X, %X): %X, %v", c[0], c[1], x, ok)
		}
	}
	if !d.Second(0x300) || !d.Second(0x1161) || !slices.Equal(d.Full(0xC0), []rune{0x41, 0x300}) {
		t.Error("9.3: Second, Full")
	}
	if a := d.Weight(0x61); a != 0.100000001490116119384765625 {
		t.Errorf("9.5: Weight(61): %v", a)
	}
	if x := d.Looks(5); !slices.Equal(x, []rune{5}) {
		t.Errorf("9.4: Looks(5): %X", x)
	}
}

// chain is so many lines, each of whose numbers opens to the next, from 2000 on.
func chain(n int) string {
	var b strings.Builder
	for i := range n {
		fmt.Fprintf(&b, "opens %X %X\n", 0x2000+i, 0x2001+i)
	}
	return b.String()
}

func TestRefused(t *testing.T) {
	for _, c := range []struct {
		text string
		at   int
		e    api.Errno
	}{
		{"", 0, api.ErrBase},
		{"valid 61..7A\n", 1, api.ErrBase},
		{"valid 61..7A\nvalid 30..39\nvalid 2D\n", 3, api.ErrBase},
		{"valid 61..7A\nvalid 30..39\nvalid 2E\n", 3, api.ErrBase},
		{"valid 61..7A\nvalid 30..38\nignored 39\nvalid 2D..2E\n", 4, api.ErrBase},
		{"valid 61..79\nmapped 7A 61\nvalid 30..39\nvalid 2D..2E\n", 4, api.ErrBase},
		{base + "ignored 7A\n", 3, api.ErrTwice},
		{base + "class 300..310 1\nclass 310 2\n", 4, api.ErrTwice},
		{base + "shift 100..110 201 2\nvalid 101\nvalid 110\n", 5, api.ErrTwice},
		{base + "decomp C0 41 300\nopens C0 41\n", 4, api.ErrTwice},
		{base + "script 41 Latn\nscript 41 Cyrl\n", 4, api.ErrTwice},
		{base + "mix Latn Cyrl 1\nmix Grek Cyrl 1\nmix Cyrl Latn 1\n", 5, api.ErrTwice},
		{base + "class 41 1\n", 3, api.ErrBase},
		{base + "class 7F..80 1\n", 3, api.ErrBase},
		{base + "opens 7F 41\n", 3, api.ErrBase},
		{base + "class 1100 1\n", 3, api.ErrHangul},
		{base + "class 1176..11A8 1\n", 3, api.ErrHangul},
		{base + "class D7A3..D7A4 1\n", 3, api.ErrHangul},
		{base + "opens AC00 41\n", 3, api.ErrHangul},
		{base + "decomp 11C2 41 300\n", 3, api.ErrHangul},
		{base + "decomp C0 1100 1161\n", 3, api.ErrHangul},
		{base + "decomp C0 AC00 11A8\n", 3, api.ErrHangul},
		{base + "opens C0 C1\nopens C1 C0\n", 3, api.ErrLoop},
		{base + "mark 300\nopens C0 C0\n", 4, api.ErrLoop},
		{base + chain(17), 3, api.ErrDeep},
		{base + "opens C1 C2 C2\nopens C2 C3 C3\nopens C3 C4 C4\nopens C4 C5 C5\nopens C5 41 42\nopens C0 C1 C1\n", 8, api.ErrLong},
		{base + "opens C0 300 301\nclass 300 2\nclass 301 1\n", 3, api.ErrClass},
		{base + "decomp C0 41 300\ndecomp C1 41 300\n", 4, api.ErrPair},
		{base + "decomp C0 41 61\n", 3, api.ErrPair},
		{base + "decomp C0 2E 300\n", 3, api.ErrPair},
		{base + "class C0 1\ndecomp C0 41 300\n", 4, api.ErrPair},
		{base + "class C1 1\ndecomp C0 C1 300\n", 4, api.ErrPair},
		{base + "decomp C0 41 300\nopens 300 301\n", 3, api.ErrPair},
		{base + "decomp C0 C1 300\nopens C1 41\n", 3, api.ErrPair},
	} {
		refused(t, read(t, c.text), c.at, c.e)
	}
}

// refused asks that a list is refused at the place, as canon refuses it.
func refused(t *testing.T, l []api.Record, at int, e api.Errno) {
	t.Helper()
	d, place, f := ucd.Compile(l)
	if d != nil || place != at || f != e {
		t.Errorf("9.1: Compile(%s): %p, %d, %d, want %d, %d", shown(l), d, place, f, at, e)
	}
	if n, g := canon.Check(l); n != place || g != f {
		t.Errorf("9.1: Compile(%s): %d, %d, canon.Check %d, %d", shown(l), place, f, n, g)
	}
}

func TestRefusedRecords(t *testing.T) {
	refused(t, nil, 0, api.ErrBase)
	refused(t, []api.Record{}, 0, api.ErrBase)
	two := []rune{0x41, 0x300}
	for _, c := range []struct {
		r api.Record
		e api.Errno
	}{
		{api.Record{}, api.ErrKind},
		{api.Record{Kind: -1, Lo: 0xC0, Hi: 0xC0}, api.ErrKind},
		{api.Record{Kind: 16, Lo: 0xC0, Hi: 0xC0}, api.ErrKind},
		{api.Record{Kind: math.MaxInt}, api.ErrKind},
		{api.Record{Kind: api.KValid, Lo: -1, Hi: 0}, api.ErrField},
		{api.Record{Kind: api.KValid, Lo: 0x10FFFF, Hi: 0x110000}, api.ErrField},
		{api.Record{Kind: api.KValid, Lo: 0xC1, Hi: 0xC0}, api.ErrField},
		{api.Record{Kind: api.KValid, Lo: math.MinInt, Hi: math.MaxInt}, api.ErrField},
		{api.Record{Kind: api.KValid, Lo: 0xC0, Hi: 0xC0, To: two}, api.ErrField},
		{api.Record{Kind: api.KMapped, Lo: 0xC0, Hi: 0xC0}, api.ErrField},
		{api.Record{Kind: api.KMapped, Lo: 0xC0, Hi: 0xC0, To: make([]rune, 25)}, api.ErrField},
		{api.Record{Kind: api.KShift, Lo: 0xC0, Hi: 0xC9, To: two[:1]}, api.ErrField},
		{api.Record{Kind: api.KShift, Lo: 0xC0, Hi: 0xC9, To: two[:1], N: 65}, api.ErrField},
		{api.Record{Kind: api.KShift, Lo: 0xC0, Hi: 0xC9, To: two[:1], N: -1}, api.ErrField},
		{api.Record{Kind: api.KShift, Lo: 0xC0, Hi: 0xC9, To: two, N: 1}, api.ErrField},
		{api.Record{Kind: api.KShift, Lo: 0xC0, Hi: 0xC9, N: 1}, api.ErrField},
		{api.Record{Kind: api.KDeviation, Lo: 0xC0, Hi: 0xC1}, api.ErrField},
		{api.Record{Kind: api.KClass, Lo: 0x300, Hi: 0x300}, api.ErrField},
		{api.Record{Kind: api.KClass, Lo: 0x300, Hi: 0x300, N: 255}, api.ErrField},
		{api.Record{Kind: api.KDecomp, Lo: 0xC0, Hi: 0xC0, To: two[:1]}, api.ErrField},
		{api.Record{Kind: api.KDecomp, Lo: 0xC0, Hi: 0xC0}, api.ErrField},
		{api.Record{Kind: api.KDecomp, Lo: 0xC0, Hi: 0xC0, To: []rune{0x41, 0x302, 0x300}}, api.ErrField},
		{api.Record{Kind: api.KOpens, Lo: 0xC0, Hi: 0xC0}, api.ErrField},
		{api.Record{Kind: api.KOpens, Lo: 0xC0, Hi: 0xC0, To: []rune{0x41, 0x302, 0x300}}, api.ErrField},
		{api.Record{Kind: api.KOpens, Lo: 0xD800, Hi: 0xD800, To: two}, api.ErrField},
		{api.Record{Kind: api.KBidi, Lo: 0xC0, Hi: 0xC0, N: 11}, api.ErrField},
		{api.Record{Kind: api.KJoin, Lo: 0xC0, Hi: 0xC0, N: 6}, api.ErrField},
		{api.Record{Kind: api.KMark, Lo: 0xC0, Hi: 0xC0, N: 1}, api.ErrField},
		{api.Record{Kind: api.KScript, Lo: 0xC0, Hi: 0xC0}, api.ErrField},
		{api.Record{Kind: api.KScript, Lo: 0xC0, Hi: 0xC0, Name: "latn"}, api.ErrField},
		{api.Record{Kind: api.KLooks, Lo: 0xC0, Hi: 0xC0}, api.ErrField},
		{api.Record{Kind: api.KLooks, Lo: 0xC0, Hi: 0xC0, To: make([]rune, 25)}, api.ErrField},
		{api.Record{Kind: api.KWeight, Lo: 0xC0, Hi: 0xC0, Weight: math.NaN()}, api.ErrField},
		{api.Record{Kind: api.KWeight, Lo: 0xC0, Hi: 0xC0, Weight: math.Copysign(0, -1)}, api.ErrField},
		{api.Record{Kind: api.KWeight, Lo: 0xC0, Hi: 0xC0, Weight: -1}, api.ErrField},
		{api.Record{Kind: api.KMix, Name: "Latn", Other: "Latn"}, api.ErrField},
		{api.Record{Kind: api.KMix, Name: "Latn", Other: "Cyrl", Weight: math.Copysign(0, -1)}, api.ErrField},
		{api.Record{Kind: api.KMix, Name: "Latn", Other: "Cyrl", Weight: math.Inf(-1)}, api.ErrField},
	} {
		right := read(t, base)
		refused(t, append(slices.Clone(right), c.r), 3, c.e)
		refused(t, slices.Insert(right, 1, c.r), 1, c.e)
	}
}

// greatest is the base and so many marks more, two numbers apart.
func greatest(t *testing.T, more int) []api.Record {
	l := read(t, base)
	for i := range more {
		l = append(l, api.Record{Kind: api.KMark, Lo: 0x1000 + 2*i, Hi: 0x1000 + 2*i})
	}
	return l
}

func TestMostRecords(t *testing.T) {
	refused(t, greatest(t, 4094), 0, api.ErrMany)
	d := take(t, greatest(t, 4093))
	for i := range 4093 {
		if c := rune(0x1000 + 2*i); !d.Mark(c) || d.Mark(c+1) {
			t.Fatalf("9.4: Mark(%X): %v, and behind it %v", c, d.Mark(c), d.Mark(c+1))
		}
	}
	// Of one family as many as may be, each with an answer of its own: the last ones' places are great.
	l := read(t, base)
	for i := range 4093 {
		l = append(l, api.Record{Kind: api.KLooks, Lo: 0x1000 + i, Hi: 0x1000 + i, To: []rune{rune(0x5000 + i), 0x61}})
	}
	d = take(t, l)
	for i := range rune(4093) {
		if x := d.Looks(0x1000 + i); !slices.Equal(x, []rune{0x5000 + i, 0x61}) {
			t.Fatalf("9.4: Looks(%X): %X", 0x1000+i, x)
		}
	}
}

func TestStatusKinds(t *testing.T) {
	d := compile(t, "valid 100..102\nignored 103..105\nmapped 106..108 61 62 63\nshift 109..10B 3B1 1\ndeviation 10C 73 74\n"+
		"deviation 10D\nvalid 10F\nshift 200..20A 401 5\nvalid 201..204\nignored 206..209\nshift 20B 1 64\nvalid D800..DFFF\nmapped 10FFFF 41\nignored 0\n")
	for _, c := range []struct {
		lo, hi  rune
		status  int
		mapping []rune
	}{
		{0xFE, 0xFF, 0, nil}, {0x100, 0x102, 1, nil}, {0x103, 0x105, 2, nil}, {0x106, 0x108, 3, []rune{0x61, 0x62, 0x63}},
		{0x109, 0x109, 3, []rune{0x3B1}}, {0x10A, 0x10A, 3, []rune{0x3B2}}, {0x10B, 0x10B, 3, []rune{0x3B3}},
		{0x10C, 0x10C, 4, []rune{0x73, 0x74}}, {0x10D, 0x10D, 4, nil}, {0x10E, 0x10E, 0, nil}, {0x10F, 0x10F, 1, nil}, {0x110, 0x111, 0, nil},
		{0x1FF, 0x1FF, 0, nil}, {0x200, 0x200, 3, []rune{0x401}}, {0x201, 0x204, 1, nil}, {0x205, 0x205, 3, []rune{0x406}},
		{0x206, 0x209, 2, nil}, {0x20A, 0x20A, 3, []rune{0x40B}}, {0x20B, 0x20B, 3, []rune{1}}, {0x20C, 0x20F, 0, nil},
		{0xD7FF, 0xD7FF, 0, nil}, {0xD800, 0xDFFF, 1, nil}, {0xE000, 0xE000, 0, nil}, {0x10FFFE, 0x10FFFE, 0, nil}, {0x10FFFF, 0x10FFFF, 3, []rune{0x41}},
		{-2, -1, 0, nil}, {0, 0, 2, nil}, {1, 0x2C, 0, nil}, {0x2D, 0x2E, 1, nil}, {0x2F, 0x2F, 0, nil}, {0x110000, 0x110010, 0, nil},
	} {
		for n := c.lo; n <= c.hi; n++ {
			if d.Status(n) != c.status || !slices.Equal(d.Mapping(n), c.mapping) {
				t.Errorf("9.2: of %X: %d, %X, want %d, %X", n, d.Status(n), d.Mapping(n), c.status, c.mapping)
			}
		}
	}
}

func TestShifts(t *testing.T) {
	for step := 1; step <= 64; step++ {
		l := read(t, base)
		for _, x := range []api.Record{
			{Lo: 0x100, Hi: 0x100 + 3*step, To: []rune{0x101}},
			{Lo: 0x33B, Hi: 0x33B + 200, To: []rune{0x10FF00}},
			{Lo: 0x500, Hi: 0x500, To: []rune{0x10FFFF}},
			{Lo: 0x10FF00, Hi: 0x10FFFF, To: []rune{0}},
			{Lo: 0xD780, Hi: 0xE0FF, To: []rune{0xCE80}},
			{Lo: 0xA000, Hi: 0xA0FF, To: []rune{0xD700}},
			{Lo: 0, Hi: 0x2C, To: []rune{0xE000}},
		} {
			x.Kind, x.N = api.KShift, step
			l = append(l, x)
		}
		d := take(t, l)
		for _, x := range l {
			for c := rune(x.Lo - 70); c <= rune(x.Hi+70); c++ {
				n, to := modelStatus(l, c)
				if d.Status(c) != n || !slices.Equal(d.Mapping(c), to) {
					t.Fatalf("9.2: of %X by the step %d: %d, %X, want %d, %X", c, step, d.Status(c), d.Mapping(c), n, to)
				}
			}
		}
	}
}

// Each second, and each 64th, of very many numbers; what lies between is another record's.
func TestWideShifts(t *testing.T) {
	l := read(t, base+"shift 10000..10FFFF 10000 2\nvalid 10001\nshift 10003..10FFFF 10000 2\nmapped 3000..9FFF 41 42 43\n")
	for i := range 64 {
		l = append(l, api.Record{Kind: api.KShift, Lo: 0x1000 + i, Hi: 0x1FFF, N: 64, To: []rune{rune(0xE000 + i)}})
	}
	d := take(t, l)
	for c := rune(0x1000); c <= 0x1FFF; c++ {
		if x := d.Mapping(c); d.Status(c) != 3 || !slices.Equal(x, []rune{0xE000 + c - 0x1000}) {
			t.Fatalf("9.2: of %X: %d, %X", c, d.Status(c), x)
		}
	}
	for c := rune(0x10000); c <= 0x10FFFF; c++ {
		want := c
		if c%2 == 1 {
			want = c - 3
		}
		if x := d.Mapping(c); c != 0x10001 && (d.Status(c) != 3 || !slices.Equal(x, []rune{want})) {
			t.Fatalf("9.2: of %X: %d, %X", c, d.Status(c), x)
		}
	}
	if d.Status(0x10001) != 1 || len(d.Mapping(0x10001)) != 0 {
		t.Errorf("9.2: of 10001: %d", d.Status(0x10001))
	}
}

func TestNoPoints(t *testing.T) {
	all := "valid 0..2C\nvalid 7B..10FFFF\nclass 80..10FF 1\nclass D7A4..10FFFF 254\nbidi 0..10FFFF NSM\njoin 0..10FFFF T\nmark 0..10FFFF\nscript 0..10FFFF Latn\nweight 0..10FFFF inf\nlooks 0 61\nlooks 10FFFF 61\nopens 10FFFF 61\n"
	d := compile(t, all)
	tries := tried(d)
	for _, c := range noPoints {
		a := asked(d, c)
		a.tries = triesAt(tries, int(c))
		if want := (answers{full: []rune{c}, looks: []rune{c}}); !alike(a, want) {
			t.Errorf("9.2 to 9.6: of %X: %+v", c, a)
		}
		for _, b := range slices.Concat(noPoints, hangulEdges) {
			if x, ok := d.Compose(c, b); x != 0 || ok {
				t.Errorf("9.3: Compose(%X, %X): %X", c, b, x)
			}
			if x, ok := d.Compose(b, c); x != 0 || ok {
				t.Errorf("9.3: Compose(%X, %X): %X", b, c, x)
			}
		}
	}
	for _, c := range []rune{0, 0x10FFFF} {
		if a := asked(d, c); a.status != 1 || a.bidi != 10 || a.join != 5 || !a.mark || a.script != "Latn" || a.weight != api.Bits(math.Inf(1)) || !slices.Equal(a.looks, []rune{0x61}) {
			t.Errorf("9.2 to 9.5: of %X: %+v", c, a)
		}
	}
	if d.Class(0x10FFFF) != 254 || !slices.Equal(d.Full(0x10FFFF), []rune{0x61}) {
		t.Errorf("9.3: of 10FFFF: %d, %X", d.Class(0x10FFFF), d.Full(0x10FFFF))
	}
}

func TestClasses(t *testing.T) {
	l := read(t, base)
	for n := 1; n <= 254; n++ {
		l = append(l, api.Record{Kind: api.KClass, Lo: 0x2000 + 4*n, Hi: 0x2001 + 4*n, N: n})
	}
	d := take(t, l)
	for n := range rune(256) {
		want := int(n) % 255
		x := []int{d.Class(0x1FFF + 4*n), d.Class(0x2000 + 4*n), d.Class(0x2001 + 4*n), d.Class(0x2002 + 4*n)}
		if !slices.Equal(x, []int{0, want, want, 0}) {
			t.Errorf("9.3: Class at %X: %d, want %d", 0x2000+4*n, x, want)
		}
	}
	for _, c := range []rune{0, 0x61, 0x300, 0x1100, 0xAC00, 0xAC01, 0xD7A3} {
		if d.Class(c) != 0 {
			t.Errorf("9.3: Class(%X): %d", c, d.Class(c))
		}
	}
}

func TestOpening(t *testing.T) {
	d := compile(t, "decomp C0 41 300\ndecomp C2 41 302\ndecomp 1EA6 C2 300\nopens 212B C5\ndecomp C5 41 30A\nopens 340 300\nopens 344 308 301\n"+
		"class 300..314 230\nopens 2000 212B 340\nopens 3131 1100\nopens 3200 AC01 1EA6\ndecomp 3201 AC01 300\nmapped 41 61\nlooks 42 61 62\n")
	for _, c := range []struct {
		c          rune
		open, full []rune
	}{
		{0xC0, []rune{0x41, 0x300}, []rune{0x41, 0x300}},
		{0xC2, []rune{0x41, 0x302}, []rune{0x41, 0x302}},
		{0x1EA6, []rune{0xC2, 0x300}, []rune{0x41, 0x302, 0x300}},
		{0x212B, []rune{0xC5}, []rune{0x41, 0x30A}},
		{0x340, []rune{0x300}, []rune{0x300}},
		{0x344, []rune{0x308, 0x301}, []rune{0x308, 0x301}},
		{0x2000, []rune{0x212B, 0x340}, []rune{0x41, 0x30A, 0x300}},
		{0x3131, []rune{0x1100}, []rune{0x1100}},
		{0x3200, []rune{0xAC01, 0x1EA6}, []rune{0x1100, 0x1161, 0x11A8, 0x41, 0x302, 0x300}},
		{0x3201, []rune{0xAC01, 0x300}, []rune{0x1100, 0x1161, 0x11A8, 0x300}},
		{0xBF, nil, []rune{0xBF}}, {0xC1, nil, []rune{0xC1}}, {0x41, nil, []rune{0x41}}, {0x42, nil, []rune{0x42}}, {0x300, nil, []rune{0x300}},
		{0, nil, []rune{0}}, {0xD800, nil, []rune{0xD800}}, {-7, nil, []rune{-7}}, {math.MinInt32, nil, []rune{math.MinInt32}}, {math.MaxInt32, nil, []rune{math.MaxInt32}},
	} {
		if open, full := d.Open(c.c), d.Full(c.c); !slices.Equal(open, c.open) || !slices.Equal(full, c.full) {
			t.Errorf("9.3: of %X: Open %X, Full %X, want %X, %X", c.c, open, full, c.open, c.full)
		}
	}
}

// The longest and deepest that canon takes.
func TestGreatOpenings(t *testing.T) {
	d := compile(t, "opens C1 C2 C2\nopens C2 C3 C3\nopens C3 C4 C4\nopens C4 C5 C5\nopens C5 41 42\n"+chain(16))
	if x := d.Full(0xC1); !slices.Equal(x, slices.Repeat([]rune{0x41, 0x42}, 16)) {
		t.Errorf("9.3: Full of 32 numbers: %X", x)
	}
	if x := d.Full(0x2000); !slices.Equal(x, []rune{0x2010}) {
		t.Errorf("9.3: Full of 16 steps: %X", x)
	}
}

func TestSyllables(t *testing.T) {
	d := compile(t, "decomp C0 41 1161\ndecomp C1 1100 300\ndecomp C2 AC01 11A8\ndecomp C3 1161 1100\n")
	for c := rune(0xABE0); c <= 0xD7C0; c++ {
		want, is := syllables[c]
		full, _ := canon.Full(nil, c)
		if open := d.Open(c); !slices.Equal(open, want) || !slices.Equal(open, canon.Open(nil, c)) || !slices.Equal(d.Full(c), full) {
			t.Fatalf("9.3: of %X: Open %X, Full %X, want %X, %X", c, open, d.Full(c), want, full)
		}
		if !is {
			continue
		}
		if x, ok := d.Compose(want[0], want[1]); x != c || !ok {
			t.Fatalf("9.3: Compose(%X, %X): %X, %v, want %X", want[0], want[1], x, ok, c)
		}
	}
}

func TestComposeHangul(t *testing.T) {
	none := compile(t, "")
	l := read(t, base+"decomp C0 41 1161\ndecomp C1 1100 300\ndecomp C2 AC01 11A8\ndecomp C3 1161 1100\ndecomp C4 AC00 1161\ndecomp C5 1100 11A8\n")
	some := take(t, l)
	x := slices.Concat(hangulEdges, noPoints, []rune{0, 0x41, 0xC0, 0x300})
	for c := rune(0x10F0); c < 0x11D0; c++ {
		x = append(x, c)
	}
	for _, a := range x {
		for _, b := range x {
			checkCompose(t, none, nil, a, b)
			checkCompose(t, some, l, a, b)
		}
	}
	for a := rune(0xABF0); a <= 0xD7B0; a++ {
		for _, b := range hangulEdges {
			checkCompose(t, none, nil, a, b)
		}
	}
	for _, c := range [][3]rune{{0x1100, 0x1161, 0xAC00}, {0x1112, 0x1175, 0xD788}, {0xAC00, 0x11A8, 0xAC01}, {0xAC00, 0x11C2, 0xAC1B}, {0xD788, 0x11C2, 0xD7A3}, {0x1100, 0x1175, 0xAE30}, {0x1101, 0x1161, 0xAE4C}} {
		if got, ok := none.Compose(c[0], c[1]); got != c[2] || !ok {
			t.Errorf("9.3: Compose(%X, %X): %X, %v", c[0], c[1], got, ok)
		}
	}
}

func TestCompose(t *testing.T) {
	l := read(t, base+"decomp C0 41 300\ndecomp C2 41 302\ndecomp 1EA6 C2 300\nopens 344 308 301\nopens 212B C5\nclass 300..314 230\ndecomp 9CB 9C7 9BE\ndecomp 10FFFF 10FFFE 10FFFD\ndecomp 9CC 9CB 9C7\n")
	d := take(t, l)
	for _, c := range [][3]rune{
		{0x41, 0x300, 0xC0}, {0x41, 0x302, 0xC2}, {0xC2, 0x300, 0x1EA6}, {0x9C7, 0x9BE, 0x9CB}, {0x10FFFE, 0x10FFFD, 0x10FFFF}, {0x9CB, 0x9C7, 0x9CC},
		{0x308, 0x301, 0}, {0xC5, 0, 0}, {0, 0, 0}, {0x300, 0x41, 0}, {0x41, 0x301, 0}, {0x42, 0x300, 0}, {0xC0, 0x300, 0}, {0x9BE, 0x9C7, 0}, {0x41, 0x41, 0}, {0x212B, 0xC5, 0},
	} {
		if x, ok := d.Compose(c[0], c[1]); x != c[2] || ok != (c[2] != 0) {
			t.Errorf("9.3: Compose(%X, %X): %X, %v, want %X", c[0], c[1], x, ok, c[2])
		}
	}
	for c, want := range map[rune]bool{
		0x300: true, 0x302: true, 0x9BE: true, 0x10FFFD: true, // the second of a pair only
		0x41: false, 0xC2: false, 0x10FFFE: false, 0x9CB: false, // the first only
		0x9C7: true,                                  // both
		0xC0:  false, 0x1EA6: false, 0x10FFFF: false, // what they compose to
		0x301: false, 0x308: false, 0xC5: false, 0x344: false, 0x212B: false, // of what opens and composes not again
		0x61: false, 0: false, -1: false, 0x110000: false, math.MinInt32: false, math.MaxInt32: false, -0x300: false,
		0x1100: false, 0x1112: false, 0x1160: false, 0x1161: true, 0x1162: true, 0x1174: true, 0x1175: true, 0x1176: false,
		0x11A7: false, 0x11A8: true, 0x11A9: true, 0x11C1: true, 0x11C2: true, 0x11C3: false, 0xAC00: false, 0xAC01: false, 0xD7A3: false,
	} {
		if d.Second(c) != want {
			t.Errorf("9.3: Second(%X): %v", c, !want)
		}
	}
	// A jamo stands in pairs of records too.
	d = compile(t, "decomp C0 41 1100\ndecomp C1 41 1161\nopens C3 41 1101\n")
	if !d.Second(0x1100) || !d.Second(0x1161) || d.Second(0x1101) {
		t.Error("9.3: Second of jamo of which records speak")
	}
}

func TestDirections(t *testing.T) {
	l := read(t, base)
	for n := range 11 {
		l = append(l, api.Record{Kind: api.KBidi, Lo: 0x2000 + 5*n, Hi: 0x2002 + 5*n, N: n})
	}
	for n := range 6 {
		l = append(l, api.Record{Kind: api.KJoin, Lo: 0x3000 + 5*n, Hi: 0x3002 + 5*n, N: n})
	}
	l = append(l, read(t, "mark 4000..4002\nmark 4004\n")...)
	d := take(t, l)
	for i := range rune(5) {
		for n := range rune(12) {
			want := 0
			if i < 3 && n < 11 {
				want = int(n)
			}
			if got := d.Bidi(0x2000 + 5*n + i); got != want {
				t.Errorf("9.4: Bidi(%X): %d, want %d", 0x2000+5*n+i, got, want)
			}
		}
		for n := range rune(7) {
			want := 0
			if i < 3 && n < 6 {
				want = int(n)
			}
			if got := d.Join(0x3000 + 5*n + i); got != want {
				t.Errorf("9.4: Join(%X): %d, want %d", 0x3000+5*n+i, got, want)
			}
		}
	}
	for c := rune(0x3FFE); c < 0x4008; c++ {
		if want := c >= 0x4000 && c <= 0x4002 || c == 0x4004; d.Mark(c) != want {
			t.Errorf("9.4: Mark(%X): %v", c, !want)
		}
	}
	if d.Bidi(0x3001) != 0 || d.Join(0x2006) != 0 || d.Bidi(0x4000) != 0 || d.Mark(0x2006) || d.Mark(0x3006) || d.Status(0x4000) != 0 || d.Class(0x4000) != 0 {
		t.Error("9.4: one family's records tell of another")
	}
}

func TestScripts(t *testing.T) {
	d := compile(t, "script 41..5A Latn\nscript 410..44F Cyrl\nscript 5B Cyrl\nmix Grek Hebr 1\n")
	for c, want := range map[rune]string{
		0x40: "", 0x41: "Latn", 0x4D: "Latn", 0x5A: "Latn", 0x5B: "Cyrl", 0x5C: "", 0x61: "", 0x40F: "", 0x410: "Cyrl", 0x44F: "Cyrl", 0x450: "", 0: "", -1: "", 0x110041: "",
	} {
		if got := d.Script(c); got != want {
			t.Errorf("9.4: Script(%X): %q, want %q", c, got, want)
		}
	}
}

func TestLooks(t *testing.T) {
	many := make([]rune, api.MaxMap)
	for i := range many {
		many[i] = rune(0x10FFFF - i*i)
	}
	l := append(read(t, base+"looks 430 61\nlooks 431 430 62\nlooks 61 61\nlooks 0 1\nmapped 433 1 2\nopens 434 5 6\n"), api.Record{Kind: api.KLooks, Lo: 0x432, Hi: 0x432, To: many})
	d := take(t, l)
	for _, c := range []struct {
		c    rune
		want []rune
	}{
		{0x430, []rune{0x61}}, {0x431, []rune{0x430, 0x62}}, {0x432, many}, {0x61, []rune{0x61}}, {0, []rune{1}},
		{0x42F, []rune{0x42F}}, {0x433, []rune{0x433}}, {0x434, []rune{0x434}}, {5, []rune{5}}, {1, []rune{1}}, {0xD800, []rune{0xD800}},
		{-1, []rune{-1}}, {math.MinInt32, []rune{math.MinInt32}}, {math.MaxInt32, []rune{math.MaxInt32}}, {0x110430, []rune{0x110430}},
	} {
		if got := d.Looks(c.c); !slices.Equal(got, c.want) {
			t.Errorf("9.4: Looks(%X): %X, want %X", c.c, got, c.want)
		}
	}
}

// narrowed is weights, and what they are in binary32: by their bits, so that the noughts are told apart.
var narrowed = []struct{ weight, want uint64 }{
	{0, 0},
	{1, 0}, // the least
	{0x0010000000000000, 0},
	{0x3FB999999999999A, 0x3FB99999A0000000}, // 0.1
	{0x3FD0000000000000, 0x3FD0000000000000}, // 0.25
	{0x3FF0000000000000, 0x3FF0000000000000},
	{0x3FF0000010000000, 0x3FF0000000000000}, // half-way: the even one
	{0x3FF0000010000001, 0x3FF0000020000000},
	{0x3FF0000030000000, 0x3FF0000040000000},
	{0x4170000010000000, 0x4170000000000000}, // 16777217
	{0x3690000000000000, 0},                  // 2^-150: half-way to the least binary32
	{0x3690000000000001, 0x36A0000000000000},
	{0x36A0000000000000, 0x36A0000000000000}, // 2^-149
	{0x36A8000000000000, 0x36B0000000000000},
	{0x380FFFFFE0000000, 0x3810000000000000},
	{0x47EFFFFFE0000000, 0x47EFFFFFE0000000}, // the greatest binary32
	{0x47EFFFFFEFFFFFFF, 0x47EFFFFFE0000000}, // the greatest that is narrowed to it
	{0x47EFFFFFF0000000, 0x7FF0000000000000}, // 2^128 - 2^103
	{0x47F0000000000000, 0x7FF0000000000000},
	{0x7FEFFFFFFFFFFFFF, 0x7FF0000000000000},
	{0x7FF0000000000000, 0x7FF0000000000000},
}

func scriptName(i int) string { return "A" + string(rune('a'+i/26)) + string(rune('a'+i%26)) + "x" }

func TestWeights(t *testing.T) {
	l := read(t, base)
	for i, x := range narrowed {
		w := api.Float(x.weight)
		l = append(l, api.Record{Kind: api.KWeight, Lo: 0x2000 + 3*i, Hi: 0x2001 + 3*i, Weight: w})
		l = append(l, api.Record{Kind: api.KMix, Name: scriptName(i + 1), Other: scriptName(i), Weight: w})
	}
	d := take(t, l)
	for i, x := range narrowed {
		at := rune(0x2000 + 3*i)
		for c, want := range map[rune]uint64{at - 1: 0, at: x.want, at + 1: x.want, at + 2: 0} {
			if got := api.Bits(d.Weight(c)); got != want {
				t.Errorf("9.5: Weight(%X) of %X: %X, want %X", c, x.weight, got, want)
			}
		}
		a, b := scriptName(i), scriptName(i+1)
		if m, n := api.Bits(d.Mix(a, b)), api.Bits(d.Mix(b, a)); m != x.want || n != x.want {
			t.Errorf("9.5: Mix of %X: %X, the other way %X, want %X", x.weight, m, n, x.want)
		}
	}
}

func TestMix(t *testing.T) {
	d := compile(t, "mix Latn Cyrl 8\nmix Grek Latn 6\nmix Aaaa Zzzz inf\nmix Zyyy Zinh 0.1\nscript 41 Hebr\nweight 41 3\n")
	for _, c := range []struct {
		a, b string
		want float64
	}{
		{"Latn", "Cyrl", 8}, {"Cyrl", "Latn", 8}, {"Grek", "Latn", 6}, {"Latn", "Grek", 6}, {"Zzzz", "Aaaa", math.Inf(1)}, {"Aaaa", "Zzzz", math.Inf(1)},
		{"Zinh", "Zyyy", 0.100000001490116119384765625}, {"Zyyy", "Zinh", 0.100000001490116119384765625},
		{"Latn", "Latn", 0}, {"Cyrl", "Cyrl", 0}, {"Hebr", "Hebr", 0}, {"", "", 0}, {"Latn", "", 0}, {"", "Latn", 0}, {"Cyrl", "Grek", 0}, {"Latn", "Hebr", 0},
		{"latn", "cyrl", 0}, {"LATN", "CYRL", 0}, {"LatnC", "yrl", 0}, {"LatnCyrl", "", 0}, {"Latn\x00", "Cyrl", 0}, {"\xFF", "\xFE", 0}, {strings.Repeat("x", 100000), "Latn", 0},
	} {
		if got := d.Mix(c.a, c.b); api.Bits(got) != api.Bits(c.want) {
			t.Errorf("9.5: Mix(%.20q, %.20q): %v, want %v", c.a, c.b, got, c.want)
		}
	}
	if got := compile(t, "").Mix("Latn", "Cyrl"); api.Bits(got) != 0 {
		t.Errorf("9.5: Mix without a record: %v", got)
	}
}

// rich is a table with all kinds, at edges of the tries' blocks, of planes, of surrogates.
const rich = base + "valid 0..2C\nignored AD\nignored 200B..20FF\nmapped 131 69 307\nmapped FF01..FFFF 41\nshift 41..5A 61 1\nshift 100..17E 101 2\nvalid 101\n" +
	"shift 10000..1FFFF 20000 3\nshift 10001..1FFFF 30000 3\ndeviation DF 73 73\ndeviation 200A\nvalid D7FF..E000\nvalid 10FFC0..10FFFF\nvalid 4E00..9FFF\n" +
	"class 300..314 230\nclass 315 232\nclass 33F..340 1\nclass 345 240\nclass 94D 9\nclass D800..DFFF 254\nclass 10FFFF 7\n" +
	"decomp C0 41 300\ndecomp C2 41 302\ndecomp 1EA6 C2 300\ndecomp 9CB 9C7 9BE\nopens 212B C5\ndecomp C5 41 30A\nopens 344 308 301\nopens 10FFFE AC01\n" +
	"bidi 5D0..5EA R\nbidi 0..2C ON\nbidi 300..345 NSM\nbidi 10FFFF AL\nbidi 6F0..6F9 EN\nbidi D800..DBFF BN\njoin 628 D\njoin 300..345 T\njoin 640 C\njoin 1E900..1E943 D\njoin 0 L\n" +
	"mark 300..345\nmark 63..64\nmark 7F..80\nmark FFFF..10000\nmark 10FFFF\nscript 41..5A Latn\nscript 400..45F Cyrl\nscript AC00..D7A3 Hang\nscript E000..10FFFF Hani\n" +
	"looks 430 61\nlooks 10FFFF 61 62 63\nlooks 0 30\nweight 61..7A 0.1\nweight 0 5e-324\nweight AC00..D7A3 1e39\nweight 10FFFF 3\nmix Latn Cyrl 8\nmix Hani Hang 0.1\n"

// paint is, at each code point, the place in l of the record of one of the kinds that speaks of it, or 0.
func paint(l []api.Record, kinds ...int) []uint16 {
	x := make([]uint16, 0x110000)
	for i, r := range l {
		for c := r.Lo; slices.Contains(kinds, r.Kind) && c <= r.Hi; c++ {
			if speaks(r, rune(c)) {
				x[c] = uint16(i)
			}
		}
	}
	return x
}

// Of rich at every number: what the calls and the tries tell is what the records say.
func TestEveryNumber(t *testing.T) {
	l := read(t, rich)
	d := take(t, l)
	tries := tried(d)
	places := append([]api.Record{{}}, l...)
	painted := [][]uint16{paint(places, api.KValid, api.KIgnored, api.KMapped, api.KShift, api.KDeviation)}
	for _, kind := range []int{api.KClass, api.KBidi, api.KJoin, api.KMark, api.KScript, api.KLooks, api.KWeight} {
		painted = append(painted, paint(places, kind))
	}
	opens := paint(places, api.KDecomp, api.KOpens)
	var own []api.Record
	for c := range rune(0x110000) {
		own = own[:0]
		for _, x := range painted {
			if x[c] > 0 {
				own = append(own, places[x[c]])
			}
		}
		want := model(own, c)
		want.second = modelSecond(l, c)
		if opens[c] > 0 {
			want.open, want.full = places[opens[c]].To, modelFull(l, c)
		}
		got := asked(d, c)
		got.tries, want.tries = triesAt(tries, int(c)), props(want)
		if !alike(got, want) {
			t.Fatalf("9.2 to 9.6: of %X:\n%+v, want\n%+v", c, got, want)
		}
	}
	checkAll(t, l)
}

func TestTries(t *testing.T) {
	if x := []int{ucd.Status, ucd.Class, ucd.Bidi, ucd.Join, ucd.Mark}; !slices.Equal(x, []int{1, 2, 3, 4, 5}) {
		t.Errorf("9.6: the properties: %d", x)
	}
	for _, s := range []string{base, rich} {
		d := take(t, read(t, s))
		for i, p := range tried(d) {
			if p == nil || p.Default() != 0 {
				t.Fatalf("9.6: Trie(%d): %p", i+1, p)
			}
			for _, c := range []int{math.MinInt, -1 << 32, -1, 0x110000, 1 << 32, 1<<32 + 0x61, 1<<32 + 0x300, math.MaxInt} {
				if p.Get(c) != 0 {
					t.Errorf("9.6: Trie(%d) at %d: %d", i+1, c, p.Get(c))
				}
			}
			if !p.Same(d.Trie(i + 1)) {
				t.Errorf("9.6: Trie(%d) asked again is another one", i+1)
			}
		}
		for _, p := range []int{0, 6, 7, 15, -1, -2, -5, 256, 257, 1<<16 + 1, 1<<32 + 1, 1<<32 + 5, math.MinInt, math.MinInt + 1, math.MaxInt} {
			if d.Trie(p) != nil {
				t.Errorf("9.6: Trie(%d)", p)
			}
		}
	}
	d := compile(t, "mark 300..301\nmark 302\nmark 0\nclass 300..310 230\nshift 41..45 61 2\nbidi 41 L\nbidi 5D0 R\njoin 41..42 U\njoin 43 T\n")
	for i, want := range [][]api.Range{
		{{Lo: 0x2D, Hi: 0x2E, Value: 1}, {Lo: 0x30, Hi: 0x39, Value: 1}, {Lo: 0x41, Hi: 0x41, Value: 3}, {Lo: 0x43, Hi: 0x43, Value: 3}, {Lo: 0x45, Hi: 0x45, Value: 3}, {Lo: 0x61, Hi: 0x7A, Value: 1}},
		{{Lo: 0x300, Hi: 0x310, Value: 230}}, {{Lo: 0x5D0, Hi: 0x5D0, Value: 1}}, {{Lo: 0x43, Hi: 0x43, Value: 5}}, {{Lo: 0, Hi: 0, Value: 1}, {Lo: 0x300, Hi: 0x302, Value: 1}},
	} {
		if got := d.Trie(i + 1).Ranges(); !slices.Equal(got, want) {
			t.Errorf("9.6: the ranges of Trie(%d): %X, want %X", i+1, got, want)
		}
	}
}

// What is done with a trie, even writing another one over it, changes nothing that is told later.
func TestTriesAreOwn(t *testing.T) {
	l := read(t, rich)
	d := take(t, l)
	empty, _, _ := trie.Build([]api.Range{{Lo: 0, Hi: 0x10FFFF, Value: 9}}, 9)
	kept := tried(d)
	for p := 1; p <= 5; p++ {
		given := d.Trie(p)
		index := given.Index()
		clear(index[:cap(index)])
		b, _ := given.Block(0)
		b[0]++
		clear(given.Ranges())
		*given = *empty
	}
	for i, p := range kept {
		if !p.Same(d.Trie(i+1)) || p.Same(empty) {
			t.Errorf("9.6: Trie(%d) was changed by what was done with another answer", i+1)
		}
	}
	for _, c := range edges(l) {
		check(t, d, l, c)
	}
}

// shuffled is the records in another order.
func shuffled(r *rand.Rand, l []api.Record) []api.Record {
	x := slices.Clone(l)
	r.Shuffle(len(x), func(i, j int) { x[i], x[j] = x[j], x[i] })
	return x
}

func TestOrders(t *testing.T) {
	r := rand.New(rand.NewPCG(9, 7))
	l := read(t, rich)
	first := take(t, l)
	back := slices.Clone(l)
	slices.Reverse(back)
	lists := [][]api.Record{back}
	for range 20 {
		lists = append(lists, shuffled(r, l))
	}
	for _, x := range lists {
		d := take(t, x)
		for _, c := range edges(l) {
			if a, b := asked(first, c), asked(d, c); !alike(a, b) {
				t.Fatalf("9.7: of %X in another order: %+v, want %+v", c, b, a)
			}
		}
		for p := 1; p <= 5; p++ {
			if !d.Trie(p).Same(first.Trie(p)) {
				t.Fatalf("9.7: Trie(%d) in another order", p)
			}
		}
		checkAll(t, x)
	}
}

// drawnPlace is a code point near an edge of something.
func drawnPlace(r *rand.Rand) int {
	x := []int{0, 0x30, 0x40, 0x7B, 0x80, 0xC0, 0xFF, 0x140, 0x300, 0x345, 0x1000, 0x10FE, 0x1110, 0x1160, 0x1172, 0x11A6, 0x11C0, 0x2000, 0xABFE, 0xAC1C, 0xD7A0, 0xD7FE, 0xDFFE, 0xFFFE, 0x10FFA0}
	return x[r.IntN(len(x))] + r.IntN(40)
}

func drawnNumber(r *rand.Rand) rune {
	for {
		if c := rune(drawnPlace(r)); c < 0xD800 || c > 0xDFFF {
			return c
		}
	}
}

func drawnNumbers(r *rand.Rand, least, most int) []rune {
	var x []rune
	for range least + r.IntN(most-least+1) {
		x = append(x, drawnNumber(r))
	}
	return x
}

func drawnName(r *rand.Rand) string {
	return []string{"Latn", "Cyrl", "Grek", "Hani", "Zyyy"}[r.IntN(5)]
}

func drawnWeight(r *rand.Rand) float64 {
	if r.IntN(2) == 0 {
		return api.Float(narrowed[r.IntN(len(narrowed))].weight)
	}
	return r.Float64() * math.Pow(10, float64(r.IntN(90)-45))
}

// drawn is a record that may be right.
func drawn(r *rand.Rand) api.Record {
	x := api.Record{Kind: 1 + r.IntN(15)}
	if x.Kind == api.KMix {
		x.Name, x.Other, x.Weight = drawnName(r), drawnName(r), drawnWeight(r)
		return x
	}
	x.Lo = drawnPlace(r)
	x.Hi = x.Lo + r.IntN(6)*r.IntN(2)
	if r.IntN(8) == 0 {
		x.Hi += r.IntN(3000)
	}
	x.Hi = min(x.Hi, 0x10FFFF)
	switch x.Kind {
	case api.KMapped:
		x.To = drawnNumbers(r, 1, 4)
	case api.KShift:
		x.N, x.To = 1+r.IntN(1+r.IntN(64)), drawnNumbers(r, 1, 1)
	case api.KDeviation:
		x.Hi, x.To = x.Lo, drawnNumbers(r, 0, 4)
	case api.KLooks:
		x.Hi, x.To = x.Lo, drawnNumbers(r, 1, 24)
	case api.KDecomp:
		x.Hi, x.To = x.Lo, drawnNumbers(r, 2, 2)
	case api.KOpens:
		x.Hi, x.To = x.Lo, drawnNumbers(r, 1, 2)
	case api.KClass:
		x.N = 1 + r.IntN(254)
	case api.KBidi:
		x.N = r.IntN(11)
	case api.KJoin:
		x.N = r.IntN(6)
	case api.KScript:
		x.Name = drawnName(r)
	case api.KWeight:
		x.Weight = drawnWeight(r)
	}
	return x
}

func TestDrawn(t *testing.T) {
	r := rand.New(rand.NewPCG(9, 1))
	met := map[int]int{}
	for range 150 {
		l := read(t, base)
		for range 80 {
			next := slices.Insert(slices.Clone(l), r.IntN(len(l)+1), drawn(r))
			at, e := canon.Check(next)
			if e != api.OK {
				refused(t, next, at, e)
				continue
			}
			l = next
		}
		for _, x := range l {
			met[x.Kind]++
		}
		checkAll(t, l)
	}
	for kind := 1; kind <= 15; kind++ {
		if met[kind] < 100 {
			t.Errorf("of the kind %d only %d records were drawn", kind, met[kind])
		}
	}
}

// roomy is a copy of the list, each of its lists with room behind it that holds something.
func roomy(l []api.Record) []api.Record {
	x := append(make([]api.Record, 0, len(l)+3), l...)
	for i := range x {
		x[i].To = append(make([]rune, 0, len(x[i].To)+3), x[i].To...)
		fill(x[i].To, 0x7777)
	}
	for i := range x[len(x):cap(x)] {
		x[len(x):cap(x)][i] = api.Record{Kind: api.KMark, Lo: 0x55, Hi: 0x55}
	}
	return x
}

// fill writes a number over the room behind a list.
func fill(x []rune, c rune) {
	for i := range x[len(x):cap(x)] {
		x[len(x):cap(x)][i] = c
	}
}

func TestWhatIsHandedInStays(t *testing.T) {
	plain := read(t, rich)
	for _, l := range [][]api.Record{plain, append(slices.Clone(plain), plain[0])} {
		given := roomy(l)
		before := roomy(l)
		ucd.Compile(given)
		if !table.Same(given[:cap(given)], before[:cap(before)]) {
			t.Fatal("Compile changed what was handed in")
		}
		for i, r := range given {
			if !slices.Equal(r.To[:cap(r.To)], before[i].To[:cap(before[i].To)]) {
				t.Fatalf("Compile changed the list of the record %d, or the room behind it", i)
			}
		}
	}
}

func TestWhatIsHandedInIsNotKept(t *testing.T) {
	l := read(t, rich)
	given := roomy(l)
	d := take(t, given)
	want := take(t, read(t, rich))
	all := given[:cap(given)]
	for i := range all {
		to := all[i].To[:cap(all[i].To)]
		for j := range to {
			to[j] = 0x3333
		}
		all[i] = api.Record{Kind: api.KMark, Lo: 0, Hi: 0x10FFFF, N: 3, Name: "Zzzz", Other: "Zyyy", Weight: 5}
	}
	for _, c := range edges(l) {
		check(t, d, l, c)
		if !alike(asked(d, c), asked(want, c)) {
			t.Fatalf("9.1: of %X: the list is kept", c)
		}
	}
	if d.Mix("Cyrl", "Latn") != 8 {
		t.Error("9.1: Mix: the list is kept")
	}
}

func TestAnswersAreOwn(t *testing.T) {
	l := read(t, rich)
	d := take(t, l)
	for _, c := range edges(l) {
		want := asked(d, c)
		for i, call := range []func(rune) []rune{d.Mapping, d.Open, d.Full, d.Looks} {
			given, other := call(c), call(c)
			before := slices.Clone(other)
			fill(given[:0], 0x4444)
			if !slices.Equal(other, before) {
				t.Fatalf("of %X: two answers of the call %d share memory", c, i)
			}
		}
		if got := asked(d, c); !alike(got, want) {
			t.Fatalf("of %X: what was told is Data's own memory: %+v, want %+v", c, got, want)
		}
	}
	for _, c := range edges(l) {
		check(t, d, l, c)
	}
}

// Two Data know nothing of each other.
func TestTwo(t *testing.T) {
	a := compile(t, "mapped 41 61\nmix Latn Cyrl 1\ndecomp C0 41 300\n")
	b := compile(t, "mapped 41 62\nmix Latn Cyrl 2\ndecomp C1 41 300\n")
	x, _ := a.Compose(0x41, 0x300)
	y, _ := b.Compose(0x41, 0x300)
	if a.Mapping(0x41)[0] != 0x61 || b.Mapping(0x41)[0] != 0x62 || a.Mix("Latn", "Cyrl") != 1 || b.Mix("Latn", "Cyrl") != 2 || x != 0xC0 || y != 0xC1 {
		t.Error("9.1: what one table says another one's Data tells")
	}
}
