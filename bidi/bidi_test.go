package bidi_test

import (
	"math/rand/v2"
	"slices"
	"strings"
	"testing"

	"endonym/api"
	"endonym/bidi"
	"endonym/house"
	"endonym/ucd"
)

func points(c ...rune) []rune { return c }

func many(n int, c ...rune) []rune { return slices.Repeat(c, n) }

// some is what of a label is worth showing.
func some(x []rune) []rune { return x[:min(len(x), 16)] }

func checkRules(t *testing.T, d *ucd.Data, x []rune, want int) {
	t.Helper()
	if set := bidi.Rules(d, x); set != want {
		t.Errorf("17.2: Rules of %d, %X: %d, want %d", len(x), some(x), set, want)
	}
}

func checkHas(t *testing.T, d *ucd.Data, x []rune, want bool) {
	t.Helper()
	if bidi.Has(d, x) != want {
		t.Errorf("17.1: Has of %d, %X: want %t", len(x), some(x), want)
	}
}

func checkDomain(t *testing.T, d *ucd.Data, want bool, l ...[]rune) {
	t.Helper()
	if bidi.Domain(d, l) != want {
		t.Errorf("17.1: Domain of %d, %X: want %t", len(l), l[:min(len(l), 8)], want)
	}
}

// checkSpelt wants that set of broken rules of labels of these directions, each letter a direction.
func (w *world) checkSpelt(t *testing.T, s string, want int) {
	t.Helper()
	for k := range 4 {
		if x := w.another(t, s, k); bidi.Rules(w.d, x) != want {
			t.Errorf("17.2: %s: Rules of %X (%.16s): %d, want %d", w.name, some(x), s, bidi.Rules(w.d, x), want)
		}
	}
}

func TestExamples(t *testing.T) {
	d := house.Data()
	checkRules(t, d, points(0x5D0, 0x5D1), 0)
	checkRules(t, d, points(0x5D0, 0x31), 0)
	checkRules(t, d, points(0x5D0, 0x61), 6)
	checkRules(t, d, points(0x31, 0x5D0), 1)
	checkRules(t, d, points(0x5D0, 0x2D), 4)
	checkRules(t, d, points(0x628, 0x660, 0x31), 8)
	checkRules(t, d, points(0x61, 0x5D0), 48)
	checkRules(t, d, points(0x61, 0x31), 0)
	checkRules(t, d, points(0x61, 0x2D), 32)
	checkRules(t, d, points(0x61, 0x300), 0)
}

func TestNoData(t *testing.T) {
	labels := [][]rune{nil, {}, {0x5D0}, {0x628}, {0x660}, {0x31}, {0x300}, {-1}, {0x61, 0x5D0}, {0x5D0, 0x61}, {0x31, 0x5D0}, {0x628, 0x660, 0x31, 0x61}, many(100_000, 0x5D0), points(0x5D0, 0x31)[:0]}
	for _, x := range labels {
		checkHas(t, nil, x, false)
		checkRules(t, nil, x, 0)
		checkDomain(t, nil, false, x)
		checkDomain(t, nil, false, x, nil, x)
	}
	checkDomain(t, nil, false, labels...)
	checkDomain(t, nil, false)
	checkDomain(t, nil, false, [][]rune{}...)
}

func TestEmpty(t *testing.T) {
	for _, w := range []*world{houseWorld(t), seatWorld(t), baseWorld(t), written(t, "all R", base+"bidi 0..10FFFF R\n"), written(t, "all ON", base+"bidi 0..10FFFF ON\n")} {
		room := points(0x5D0, 0x660, 0x31, 0x241, 0x61)
		for _, x := range [][]rune{nil, {}, room[:0], room[2:2], room[5:]} {
			checkHas(t, w.d, x, false)
			checkRules(t, w.d, x, 0)
			checkDomain(t, w.d, false, x)
			checkDomain(t, w.d, false, x, nil, x, points())
		}
		checkDomain(t, w.d, false)
		if bidi.Domain(w.d, nil) || bidi.Domain(w.d, [][]rune{{0x5D0}, {0x241}}[:0]) {
			t.Errorf("17.1: %s: Domain of no labels", w.name)
		}
		checkDomain(t, w.d, false, make([][]rune, 100_000)...)
	}
}

// Has of each direction alone, and as the first, a middle and the last number among others that do not make it true.
func TestHas(t *testing.T) {
	has := map[rune]bool{'l': false, 'r': true, 'a': true, 'n': true, 'e': false, 's': false, 'c': false, 't': false, 'o': false, 'b': false, 'm': false}
	for _, w := range fullWorlds(t) {
		for _, letter := range letters {
			want := has[letter]
			for _, c := range w.by[strings.IndexRune(letters, letter)] {
				checkHas(t, w.d, points(c), want)
				for _, s := range []string{"l", "e", "m", "o", "ll", "lesctobm", "mbotcsel", "mm", strings.Repeat("le", 500)} {
					x := w.label(t, s)
					checkHas(t, w.d, x, false)
					checkHas(t, w.d, slices.Concat(points(c), x), want)
					checkHas(t, w.d, slices.Concat(x, points(c), x), want)
					checkHas(t, w.d, slices.Concat(x, points(c)), want)
				}
				for _, s := range []string{"r", "a", "n", "ran"} {
					x := w.label(t, s)
					checkHas(t, w.d, slices.Concat(points(c), x), true)
					checkHas(t, w.d, slices.Concat(x, points(c)), true)
				}
				checkHas(t, w.d, many(9, c), want)
			}
		}
	}
}

// Has and Rules ask of the label alone, not of what lies round it in its memory.
func TestNeighbours(t *testing.T) {
	d := house.Data()
	room := points(0x5D0, 0x61, 0x31, 0x300, 0x660, 0x2D)
	checkHas(t, d, room[1:4], false)
	checkHas(t, d, room[1:5], true)
	checkHas(t, d, room[0:1], true)
	checkRules(t, d, room[1:4], 0)
	checkRules(t, d, room[1:5], 48)
	checkRules(t, d, room[1:6], 48)
	checkRules(t, d, room[:1], 0)
	checkRules(t, d, room[:2], 6)
	checkDomain(t, d, false, room[1:4], room[5:])
	labels := [][]rune{{0x5D0}, {0x61}, {0x31}, {0x5D0}}
	checkDomain(t, d, false, labels[1:3]...)
	checkDomain(t, d, true, labels[1:4]...)
	checkDomain(t, d, true, labels[:2]...)
}

func TestDomain(t *testing.T) {
	for _, w := range fullWorlds(t) {
		plain := [][]rune{nil, w.label(t, "l"), {}, w.label(t, "ems"), w.label(t, "lesctobm"), nil, points(-1, 0x110000)}
		checkDomain(t, w.d, false, plain...)
		checkDomain(t, w.d, false, slices.Repeat(plain, 1000)...)
		for _, s := range []string{"r", "a", "n", "lr", "lla", "nl", "ele", "mnm", "raneml"} {
			x := w.label(t, s)
			has := strings.ContainsAny(s, "ran")
			checkDomain(t, w.d, has, x)
			checkDomain(t, w.d, has, x, nil)
			checkDomain(t, w.d, has, nil, x)
			checkDomain(t, w.d, has, nil, nil, x, nil, nil)
			checkDomain(t, w.d, has, x, x, x)
			for i := range len(plain) + 1 {
				checkDomain(t, w.d, has, slices.Insert(slices.Clone(plain), i, x)...)
			}
			checkDomain(t, w.d, has, append(slices.Repeat(plain, 1000), x)...)
			checkDomain(t, w.d, has, append([][]rune{x}, slices.Repeat(plain, 1000)...)...)
		}
	}
}

// Of each direction as the first number: rule 1 alone, where it is none of L, R, AL, whatever is behind it.
func TestFirst(t *testing.T) {
	behind := []string{"", "l", "r", "a", "n", "e", "s", "m", "ne", "en", "nel", "lr", "rl", "rs", "ls", "ral", "lesctobm", "ranesctobm", "mm", "rm", "lm", "nesm"}
	for _, w := range fullWorlds(t) {
		for _, first := range "lra" {
			w.checkSpelt(t, string(first), 0)
		}
		for _, first := range "nesctobm" {
			for _, s := range behind {
				w.checkSpelt(t, string(first)+s, 1)
				w.checkSpelt(t, strings.Repeat(string(first), 5)+s, 1)
			}
		}
		for _, first := range "lra" {
			for _, s := range behind {
				if x := w.label(t, string(first)+s); bidi.Rules(w.d, x)&1 != 0 {
					t.Errorf("17.2: %s: Rules of %X: rule 1", w.name, x)
				}
			}
		}
	}
}

// Each direction behind R, AL and L amid the label, and at its end. The sets stand in the order of letters.
func TestPlaces(t *testing.T) {
	middleRight := [11]int{2, 0, 0, 0, 0, 0, 0, 0, 0, 0, 0}
	middleLeft := [11]int{0, 16, 16, 16, 0, 0, 0, 0, 0, 0, 0}
	lastRight := [11]int{6, 0, 0, 0, 0, 4, 4, 4, 4, 4, 0}
	lastLeft := [11]int{0, 48, 48, 48, 0, 32, 32, 32, 32, 32, 0}
	for _, w := range fullWorlds(t) {
		for i := range len(letters) {
			s := letters[i : i+1]
			for _, first := range []string{"r", "a", "ra", "ar", "rm", "as", "rob"} {
				for _, end := range []string{"r", "a", "rm", "amm", "sr"} {
					w.checkSpelt(t, first+s+end, middleRight[i])
					w.checkSpelt(t, first+s+s+s+end, middleRight[i])
				}
			}
			for _, first := range []string{"l", "ll", "le", "lm", "lsb"} {
				for _, end := range []string{"l", "e", "lm", "emm", "sl"} {
					w.checkSpelt(t, first+s+end, middleLeft[i])
					w.checkSpelt(t, first+s+s+s+end, middleLeft[i])
				}
			}
			// the last number, and what is last but for NSMs
			for _, count := range []int{0, 1, 2, 3, 50, 3000} {
				laid := strings.Repeat("m", count)
				for _, first := range []string{"r", "a", "rr", "ara", "rmr", "rsa"} {
					w.checkSpelt(t, first+s+laid, lastRight[i])
				}
				for _, first := range []string{"l", "ll", "lel", "lml", "lsl"} {
					w.checkSpelt(t, first+s+laid, lastLeft[i])
				}
			}
		}
	}
}

// What is last is asked alone: what is ahead of it ends nothing, and NSMs before it hide nothing.
func TestLastIsAsked(t *testing.T) {
	for _, w := range fullWorlds(t) {
		for _, s := range []string{"rm", "rmmm", "am", "lm", "lmmm", "rsr", "rbbbe", "asctobn", "rsmem", "lse", "lsctobl", "lsmlm", "rmbmrm", "re", "lmse"} {
			w.checkSpelt(t, s, 0)
		}
		for _, s := range []string{"rs", "rsm", "rms", "rmsm", "rerbm", "amomm", "rnc", "rtmmmm", "ramob"} {
			w.checkSpelt(t, s, 4)
		}
		for _, s := range []string{"ls", "lsm", "lms", "lmsm", "lelbm", "lmomm", "lec", "ltmmmm", "llmob"} {
			w.checkSpelt(t, s, 32)
		}
	}
}

func TestDigits(t *testing.T) {
	far := []string{"", "m", "s", "b", "r", "a", "rsctobm", strings.Repeat("ra", 2000)}
	for _, w := range fullWorlds(t) {
		for _, first := range []string{"r", "a", "rm", "rra"} {
			for _, digits := range []string{"e", "n", "ee", "nn", "ere", "nan", "esme"} {
				w.checkSpelt(t, first+digits, 0)
				w.checkSpelt(t, first+digits+"r", 0)
			}
			for _, between := range far {
				for _, digits := range []string{"e" + between + "n", "n" + between + "e"} {
					w.checkSpelt(t, first+digits, 8)
					w.checkSpelt(t, first+digits+"m", 8)
					w.checkSpelt(t, first+digits+"ra", 8)
					w.checkSpelt(t, first+digits+digits, 8)
					w.checkSpelt(t, first+between+digits+"a", 8)
				}
			}
		}
		// from the left the rule 4 is not asked; AN may not stand at all
		for _, between := range []string{"", "l", "s", "mmm", strings.Repeat("le", 2000)} {
			w.checkSpelt(t, "le"+between+"e", 0)
			w.checkSpelt(t, "le"+between+"nl", 16)
			w.checkSpelt(t, "ln"+between+"el", 16)
			w.checkSpelt(t, "ln"+between+"e", 16)
			w.checkSpelt(t, "le"+between+"n", 48)
			w.checkSpelt(t, "ln"+between+"nm", 48)
		}
		// nor where the rule 1 is broken
		for _, s := range []string{"en", "ne", "enr", "nea", "ener", "men", "sne", "ben"} {
			w.checkSpelt(t, s, 1)
		}
	}
	// by hand: digits of two kinds beside one another in Arabic, and EN that are not below 80
	d := house.Data()
	checkRules(t, d, points(0x628, 0x660, 0x669, 0x628), 0)
	checkRules(t, d, points(0x628, 0x6F0, 0x39), 0)
	checkRules(t, d, points(0x628, 0x6F0, 0x660), 8)
	checkRules(t, d, points(0x628, 0x669, 0x628, 0x628, 0x6F9), 8)
	checkRules(t, d, points(0x5D0, 0x39, 0x300, 0x660), 8)
}

// Each set that can be told, of labels that break just these rules.
func TestSets(t *testing.T) {
	sets := map[int][]string{
		0:       {"r", "a", "l", "ra", "rem", "rnsn", "le", "lsel", "lbbmle", "rsctoba"},
		1:       {"n", "m", "el", "srl", "bne", "mls", "ols", "nel"},
		2:       {"rlr", "rle", "alna", "rlmr", "rllllma", "alsem"},
		4:       {"rs", "acm", "rnt", "reo", "asbmm"},
		8:       {"ren", "rne", "ane", "resn", "rensr"},
		2 | 4:   {"rl", "al", "rls", "rsl", "rel", "anlm", "rslm", "alb"},
		2 | 8:   {"rlen", "rnle", "aelnm", "rnela", "alnsem"},
		4 | 8:   {"rens", "rneb", "aentm", "rsnoec", "anecmm"},
		14:      {"renl", "rlens", "anel", "alnsoec", "rnelm", "rnesl"},
		16:      {"lrl", "lal", "lne", "lrmem", "lranesctobml", "lnel"},
		32:      {"ls", "lc", "lt", "lo", "lb", "lems", "lelbm"},
		16 | 32: {"lr", "la", "ln", "lrs", "lsr", "lenm", "larb", "lranesctob", "lesctobran"},
	}
	for _, w := range fullWorlds(t) {
		for set, labels := range sets {
			for _, s := range labels {
				w.checkSpelt(t, s, set)
			}
		}
		each(4, letters, func(s string) {
			if set := bidi.Rules(w.d, w.label(t, s)); sets[set] == nil {
				t.Errorf("17.2: %s: Rules of %s: %d, a set that cannot be", w.name, s, set)
			}
		})
	}
}

// What is no code point, and what no record speaks of, is L, even where the table speaks of all code points.
func TestNoPoints(t *testing.T) {
	allR, allON, allNSM := written(t, "all R", base+"bidi 0..10FFFF R\n"), written(t, "all ON", base+"bidi 0..10FFFF ON\n"), written(t, "all NSM", base+"bidi 0..10FFFF NSM\n")
	for _, c := range noPoints {
		for _, w := range []*world{houseWorld(t), seatWorld(t), baseWorld(t), allR, allON, allNSM} {
			checkHas(t, w.d, points(c), false)
			checkDomain(t, w.d, false, points(c), nil, points(c, c))
			checkRules(t, w.d, points(c), 0)
			checkRules(t, w.d, points(c, c, c), 0)
		}
		checkRules(t, allR.d, points(0x61, c), 6)
		checkRules(t, allR.d, points(0x61, c, 0x10FFFF), 2)
		checkRules(t, allR.d, points(c, 0), 48)
		checkRules(t, allR.d, points(c, 0x10FFFF, c), 16)
		checkHas(t, allR.d, points(c, 0x10FFFF, c), true)
		checkRules(t, allON.d, points(c, 0x61), 32)
		checkRules(t, allON.d, points(c, 0x61, c), 0)
		checkRules(t, allON.d, points(0x61, c), 1)
		checkRules(t, allNSM.d, points(c, 0, 0x10FFFF), 0)
		checkRules(t, allNSM.d, points(0, c), 1)
		checkRules(t, house.Data(), points(0x5D0, c), 6)
		checkRules(t, house.Data(), points(c, 0x5D0), 48)
		checkRules(t, house.Data(), points(c, 0x300), 0)
		checkRules(t, house.Data(), points(0x31, c), 1)
	}
	d := baseWorld(t).d
	for _, c := range points(0, 0x2D, 0x31, 0x300, 0x5D0, 0x628, 0x660, 0xD800, 0xDFFF, 0xFFFF, 0x10000, 0x10FFFF) {
		checkHas(t, d, points(c), false)
		checkRules(t, d, points(c), 0)
		checkRules(t, d, points(0x61, c), 0)
	}
}

// A label of one number, of every number that the tables tell apart.
func TestOne(t *testing.T) {
	one := map[byte]int{'l': 0, 'r': 0, 'a': 0, 'n': 1, 'e': 1, 's': 1, 'c': 1, 't': 1, 'o': 1, 'b': 1, 'm': 1}
	for _, w := range append(fullWorlds(t), baseWorld(t)) {
		for _, c := range w.all {
			checkRules(t, w.d, points(c), one[letters[w.direction(c)]])
			w.check(t, points(c))
		}
	}
}

// All short labels, of every direction.
func TestShort(t *testing.T) {
	for k, w := range fullWorlds(t) {
		each(5-k, letters, func(s string) { w.check(t, w.another(t, s, len(s))) })
		each(7, "rlenm", func(s string) { w.check(t, w.label(t, s)) })
	}
}

// A label that breaks no rule breaks none with NSMs behind it, and Has what it had (17.3).
func TestLaid(t *testing.T) {
	for _, w := range fullWorlds(t) {
		laid := [][]rune{many(2, w.by[api.NSM]...), many(5000, w.one(t, 'm', 0))}
		for _, c := range w.by[api.NSM] {
			laid = append(laid, points(c))
		}
		checked := 0
		each(4, letters, func(s string) {
			x := w.label(t, s)
			if s == "" || bidi.Rules(w.d, x) != 0 {
				return
			}
			checked++
			has := bidi.Has(w.d, x)
			for k, m := range laid {
				if k == 1 && len(s) > 2 {
					continue
				}
				y := slices.Concat(x, m)
				if set := bidi.Rules(w.d, y); set != 0 || bidi.Has(w.d, y) != has {
					t.Errorf("17.3: %s: Rules of %X with NSMs behind: %d", w.name, x, set)
				}
			}
		})
		if checked < 1000 {
			t.Errorf("17.3: %s: of all short labels %d break no rule", w.name, checked)
		}
	}
}

// A label without R, AL and AN breaks the rules 2, 3, 4 never (17.3).
func TestNeverFromRight(t *testing.T) {
	for _, w := range fullWorlds(t) {
		each(5, "lesctobm", func(s string) {
			x := w.label(t, s)
			if set := bidi.Rules(w.d, x); set&(2|4|8) != 0 || bidi.Has(w.d, x) {
				t.Errorf("17.3: %s: Rules of %X (%s): %d", w.name, x, s, set)
			}
		})
	}
}

func TestDrawn(t *testing.T) {
	draw := rand.New(rand.NewPCG(17, 3))
	worlds := append(fullWorlds(t), baseWorld(t))
	for range 150 {
		worlds = append(worlds, drawnWorld(t, draw))
	}
	for k, w := range worlds {
		n := 300
		if k < 3 {
			n = 10_000
		}
		for range n {
			x := w.drawn(draw, 12)
			w.check(t, x)
			w.checkPromises(t, draw, x)
			w.checkLabels(t, draw)
		}
		for range 3 {
			w.check(t, w.drawn(draw, 2000))
		}
	}
}

// checkPromises holds a drawn label against 17.3.
func (w *world) checkPromises(t *testing.T, draw *rand.Rand, x []rune) {
	t.Helper()
	set := bidi.Rules(w.d, x)
	if !bidi.Has(w.d, x) && set&(2|4|8) != 0 {
		t.Errorf("17.3: %s: Rules of %X without R, AL, AN: %d", w.name, x, set)
	}
	laid := w.by[api.NSM]
	if set != 0 || len(x) == 0 || len(laid) == 0 {
		return
	}
	y := slices.Clone(x)
	for range 1 + draw.IntN(5) {
		y = append(y, laid[draw.IntN(len(laid))])
	}
	if set := bidi.Rules(w.d, y); set != 0 {
		t.Errorf("17.3: %s: Rules of %X: %d, and 0 of %X", w.name, y, set, x)
	}
}

// checkLabels holds Domain of drawn labels against what the records say.
func (w *world) checkLabels(t *testing.T, draw *rand.Rand) {
	t.Helper()
	var l [][]rune
	has := false
	for range draw.IntN(5) {
		x := w.drawn(draw, 3)
		l = append(l, x)
		has = has || strings.ContainsAny(w.spelt(x), "ran")
	}
	checkDomain(t, w.d, has, l...)
}

// Nothing is kept: tables that say other things of the same numbers are asked in turn.
func TestNothingKept(t *testing.T) {
	right, left, digit := written(t, "right", base+"bidi 100 R\nbidi 101 L\n").d, written(t, "left", base+"bidi 100 L\nbidi 101 R\n").d, written(t, "digit", base+"bidi 100 EN\nbidi 101 AN\n").d
	x := points(0x100, 0x101)
	for range 3 {
		checkRules(t, right, x, 6)
		checkRules(t, left, x, 48)
		checkRules(t, digit, x, 1)
		checkRules(t, nil, x, 0)
		checkHas(t, right, x[:1], true)
		checkHas(t, left, x[:1], false)
		checkHas(t, digit, x[:1], false)
		checkHas(t, digit, x[1:], true)
		checkDomain(t, left, true, x[:1], x[1:])
		checkDomain(t, left, false, x[:1], x[:1])
	}
	// what is written over behind a call is asked anew
	checkRules(t, right, x, 6)
	x[1] = 0x100
	checkRules(t, right, x, 0)
	x[0] = 0x61
	checkRules(t, right, x, 48)
}

// Long labels, and domains of many labels, take as many steps a number as short ones.
func TestLong(t *testing.T) {
	const n = 1 << 20
	d := house.Data()
	checkRules(t, d, many(n, 0x5D0), 0)
	checkRules(t, d, slices.Concat(points(0x5D0), many(n, 0x300)), 0)
	checkRules(t, d, slices.Concat(points(0x5D0, 0x2D), many(n, 0x300)), 4)
	checkRules(t, d, slices.Concat(points(0x628, 0x660), many(n, 0x628), points(0x31)), 8)
	checkRules(t, d, slices.Concat(points(0x61), many(n, 0x31), points(0x5D0), many(n, 0x300)), 48)
	checkRules(t, d, slices.Concat(points(0x61), many(n, 0x2D, 0x300)), 32)
	checkRules(t, d, slices.Concat(points(0x31), many(n, 0x5D0)), 1)
	checkHas(t, d, slices.Concat(many(n, 0x61), points(0x660)), true)
	checkHas(t, d, many(n, 0x61), false)
	checkDomain(t, d, true, append(slices.Repeat([][]rune{{0x61}, nil}, n/2), points(0x660))...)
}

// What is handed in is not changed, its spare room included.
func TestUnchanged(t *testing.T) {
	draw := rand.New(rand.NewPCG(17, 17))
	for _, w := range fullWorlds(t) {
		for range 500 {
			room := w.drawn(draw, 20)
			kept := slices.Clone(room)
			var l [][]rune
			for range 6 {
				lo := draw.IntN(len(room) + 1)
				l = append(l, room[lo:lo+draw.IntN(len(room)-lo+1)])
			}
			headers := slices.Clone(l)
			for _, d := range []*ucd.Data{w.d, nil} {
				for _, x := range l {
					bidi.Has(d, x)
					bidi.Rules(d, x)
				}
				bidi.Domain(d, l[:4])
			}
			if !slices.Equal(room, kept) {
				t.Fatalf("rule 2: %X has become %X", kept, room)
			}
			for i, x := range l {
				if len(x) != len(headers[i]) || cap(x) != cap(headers[i]) || len(x) > 0 && &x[0] != &headers[i][0] {
					t.Fatalf("rule 2: the label %d of %d has been changed", i, len(l))
				}
			}
		}
	}
}
