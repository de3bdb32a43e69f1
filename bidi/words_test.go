package bidi_test

import (
	"math"
	"math/rand/v2"
	"regexp"
	"slices"
	"strings"
	"testing"

	"endonym/api"
	"endonym/bidi"
	"endonym/canon"
	"endonym/house"
	"endonym/table"
	"endonym/ucd"
)

const base = "valid 61..7A\nvalid 30..39\nvalid 2D..2E\n"

// letters spells directions: L R AL AN EN ES CS ET ON BN NSM, one letter each.
const letters = "lranesctobm"

// seats has numbers of each direction: 240 to 24A in their order, others far from these, and at the ends.
const seats = base + "bidi 240 L\nbidi 241 R\nbidi 242 AL\nbidi 243 AN\nbidi 244 EN\nbidi 245 ES\nbidi 246 CS\nbidi 247 ET\nbidi 248 ON\nbidi 249 BN\nbidi 24A NSM\n" +
	"bidi 0 NSM\nbidi 30..39 AN\nbidi 41 AL\nbidi 62 R\nbidi D800 R\nbidi DFFF NSM\nbidi E000 EN\nbidi FFFF ES\nbidi 10000 AL\nbidi 10FF00 CS\nbidi 10FFFF AN\n"

// noPoints are numbers that are no code points, some of them like numbers that have a direction.
var noPoints = []rune{math.MinInt32, math.MinInt32 + 0x5D0, -0x5D0, -0x300, -0x241, -2, -1, 0x110000, 0x110031, 0x110241, 0x1105D0, 0x110660, 0x10005D0, math.MaxInt32}

// world is a table, its Data, numbers that it tells apart, and some of these by their direction.
type world struct {
	name string
	l    []api.Record
	d    *ucd.Data
	all  []rune
	by   [len(letters)][]rune
}

func worldOf(t *testing.T, name string, l []api.Record) *world {
	t.Helper()
	d, at, e := ucd.Compile(l)
	if e != api.OK {
		t.Fatalf("%s: Compile: %d, %v", name, at, e)
	}
	w := &world{name: name, l: l, d: d, all: append(points(0, 0x2D, 0x31, 0x61, 0xD800, 0xFFFF, 0x10FFFF), noPoints...)}
	for _, r := range l {
		if r.Kind == api.KBidi {
			w.all = append(w.all, rune(r.Lo)-1, rune(r.Lo), rune(r.Hi), rune(r.Hi)+1)
		}
	}
	slices.Sort(w.all)
	w.all = slices.Compact(w.all)
	for _, c := range w.all {
		n := w.direction(c)
		w.by[n] = append(w.by[n], c)
	}
	return w
}

func written(t *testing.T, name, s string) *world {
	t.Helper()
	l, at, e := table.Parse(s)
	if e != api.OK {
		t.Fatalf("%s: Parse: %v, %v", name, at, e)
	}
	return worldOf(t, name, l)
}

func houseWorld(t *testing.T) *world { t.Helper(); return worldOf(t, "house", house.Table()) }
func seatWorld(t *testing.T) *world  { t.Helper(); return written(t, "seats", seats) }
func baseWorld(t *testing.T) *world  { t.Helper(); return written(t, "base", base) }

// fullWorlds have numbers of every direction.
func fullWorlds(t *testing.T) []*world { t.Helper(); return []*world{houseWorld(t), seatWorld(t)} }

// drawnWorld is a right table's: records are drawn, and each that makes it wrong is left out.
func drawnWorld(t *testing.T, draw *rand.Rand) *world {
	t.Helper()
	l, _, _ := table.Parse(base)
	kinds := []int{api.KBidi, api.KBidi, api.KBidi, api.KBidi, api.KClass, api.KJoin, api.KMark, api.KValid, api.KIgnored}
	starts := []int{0, 0x2D, 0x30, 0x61, 0x300, 0x320, 0x5D0, 0x660, 0xD7FF, 0xDFFE, 0xFFFF, 0x10FFFE}
	for range 60 {
		c := starts[draw.IntN(len(starts))] + draw.IntN(12)
		r := api.Record{Kind: kinds[draw.IntN(len(kinds))], Lo: c, Hi: min(c+draw.IntN(3), api.MaxRune)}
		switch r.Kind {
		case api.KBidi:
			r.N = draw.IntN(len(letters))
		case api.KClass:
			r.N = 1 + draw.IntN(254)
		case api.KJoin:
			r.N = draw.IntN(6)
		}
		if _, e := canon.Check(append(slices.Clone(l), r)); e == api.OK {
			l = append(l, r)
		}
	}
	draw.Shuffle(len(l), func(i, j int) { l[i], l[j] = l[j], l[i] })
	return worldOf(t, "drawn", l)
}

// direction is what the records say of c, asked one by one and not by Data.
func (w *world) direction(c rune) int {
	for _, r := range w.l {
		if r.Kind == api.KBidi && r.Lo <= int(c) && int(c) <= r.Hi {
			return r.N
		}
	}
	return api.L
}

// one is a number of a direction, spelt by its letter: the k-th of them, round and round.
func (w *world) one(t *testing.T, letter rune, k int) rune {
	t.Helper()
	own := w.by[strings.IndexRune(letters, letter)]
	if len(own) == 0 {
		t.Fatalf("%s: nothing of the direction %c", w.name, letter)
	}
	return own[k%len(own)]
}

// label is numbers of the directions that s spells.
func (w *world) label(t *testing.T, s string) []rune { t.Helper(); return w.another(t, s, 0) }

// another is other numbers of these directions, as far as there are any.
func (w *world) another(t *testing.T, s string, k int) []rune {
	t.Helper()
	x := make([]rune, 0, len(s))
	for i, letter := range s {
		x = append(x, w.one(t, letter, k*(i+1)))
	}
	return x
}

func (w *world) spelt(x []rune) string {
	s := make([]byte, 0, len(x))
	for _, c := range x {
		s = append(s, letters[w.direction(c)])
	}
	return string(s)
}

// The six rules, of a label as it is spelt.
var (
	rule1 = regexp.MustCompile(`^[lra]`)
	rule2 = regexp.MustCompile(`^[ranesctobm]*$`)
	rule3 = regexp.MustCompile(`[raen]m*$`)
	both  = regexp.MustCompile(`e.*n|n.*e`)
	rule5 = regexp.MustCompile(`^[lesctobm]*$`)
	rule6 = regexp.MustCompile(`[le]m*$`)
)

// broken is what the chapter says of a label as it is spelt.
func broken(s string) int {
	set := 0
	ask := func(k int, holds bool) {
		if !holds {
			set += 1 << (k - 1)
		}
	}
	switch {
	case s == "":
	case !rule1.MatchString(s):
		ask(1, false)
	case s[0] == 'l':
		ask(5, rule5.MatchString(s))
		ask(6, rule6.MatchString(s))
	default:
		ask(2, rule2.MatchString(s))
		ask(3, rule3.MatchString(s))
		ask(4, !both.MatchString(s))
	}
	return set
}

// check holds all three calls against what the records say of x.
func (w *world) check(t *testing.T, x []rune) {
	t.Helper()
	s := w.spelt(x)
	if set, want := bidi.Rules(w.d, x), broken(s); set != want {
		t.Errorf("17.2: %s: Rules of %d, %X (%.16s): %d, want %d", w.name, len(x), some(x), s, set, want)
	}
	has := strings.ContainsAny(s, "ran")
	if bidi.Has(w.d, x) != has {
		t.Errorf("17.1: %s: Has of %d, %X (%.16s): want %t", w.name, len(x), some(x), s, has)
	}
	if bidi.Domain(w.d, [][]rune{x}) != has {
		t.Errorf("17.1: %s: Domain of %d, %X (%.16s) alone: want %t", w.name, len(x), some(x), s, has)
	}
}

// each hands on all words of up to most letters of an alphabet, the empty one first.
func each(most int, alphabet string, f func(s string)) {
	var longer func(s string)
	longer = func(s string) {
		f(s)
		if len(s) < most {
			for _, letter := range alphabet {
				longer(s + string(letter))
			}
		}
	}
	longer("")
}

// drawn is a label; some run from the right, some from the left, and some end with NSMs.
func (w *world) drawn(draw *rand.Rand, most int) []rune {
	whichever := func() rune { return w.all[draw.IntN(len(w.all))] }
	of := func(directions string) rune {
		own := w.by[strings.IndexByte(letters, directions[draw.IntN(len(directions))])]
		if len(own) == 0 {
			return whichever()
		}
		return own[draw.IntN(len(own))]
	}
	starts := []string{letters, "l", "r", "a", "ra"}
	parts := []string{letters, "ranesctobm", "ranm", "lesctobm", "lem", "raem"}
	start, part := starts[draw.IntN(len(starts))], parts[draw.IntN(len(parts))]
	var x []rune
	for range draw.IntN(most + 1) {
		switch {
		case len(x) == 0:
			x = append(x, of(start))
		case draw.IntN(12) == 0:
			x = append(x, whichever())
		default:
			x = append(x, of(part))
		}
	}
	if len(x) > 0 && draw.IntN(3) == 0 {
		for range draw.IntN(4) {
			x = append(x, of("m"))
		}
	}
	return x
}
