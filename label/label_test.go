package label_test

import (
	"math"
	"math/rand/v2"
	"slices"
	"testing"

	"endonym/api"
	"endonym/house"
	"endonym/label"
	"endonym/norm"
	"endonym/ucd"
)

func points(c ...rune) []rune { return c }

func many(n int, c ...rune) []rune { return slices.Repeat(c, n) }

// some is what of a label is worth showing.
func some(x []rune) []rune { return x[:min(len(x), 16)] }

func checkLDH(t *testing.T, x []rune, want bool) {
	t.Helper()
	if label.LDH(x) != want {
		t.Errorf("18.1: LDH of %d, %X: want %t", len(x), some(x), want)
	}
}

func checkCoded(t *testing.T, x []rune, want bool) {
	t.Helper()
	if label.Coded(x) != want {
		t.Errorf("18.1: Coded of %d, %X: want %t", len(x), some(x), want)
	}
}

func checkOne(t *testing.T, d *ucd.Data, x []rune, flags int, rtl, decoded bool, want api.Errs) {
	t.Helper()
	if set := label.Check(d, x, flags, rtl, decoded); set != want {
		t.Errorf("18.2: Check of %d, %X, flags %d, %t, %t: %d, want %d", len(x), some(x), flags, rtl, decoded, set, want)
	}
}

// settings goes through all 64 settings, with and without rtl and decoded.
func settings(f func(flags int, rtl, decoded bool)) {
	for flags := range 64 {
		for k := range 4 {
			f(flags, k&1 != 0, k&2 != 0)
		}
	}
}

// further is flags with the same six bits: beyond them there are others, or they are below 0.
func further(flags int) []int {
	return []int{flags, flags + 64, flags + 128, flags | 1<<16, flags | 1<<62, flags - 64, flags - 1<<20, flags | math.MinInt}
}

// deviating stands in a test for a BadStatus that a Deviation alone brings.
const deviating api.Errs = 1 << 20

// under is what of all that can be told is told.
func under(can api.Errs, flags int, rtl, decoded bool) api.Errs {
	keep := func(e api.Errs, asked bool) {
		if !asked {
			can &^= e
		}
	}
	keep(api.BadHyphen, flags&1 != 0)
	keep(api.BadBidi, flags&2 != 0 && rtl)
	keep(api.BadJoiner, flags&4 != 0)
	keep(api.BadSTD3, flags&8 != 0)
	keep(api.BadPrefix, flags&1 == 0)
	if can&deviating != 0 && flags&16 != 0 && !decoded {
		can |= api.BadStatus
	}
	return can &^ deviating
}

// checkAll wants of a label, under every setting, what of can is asked there.
func checkAll(t *testing.T, d *ucd.Data, x []rune, can api.Errs) {
	t.Helper()
	settings(func(flags int, rtl, decoded bool) {
		want := under(can, flags, rtl, decoded)
		for _, f := range further(flags) {
			checkOne(t, d, x, f, rtl, decoded, want)
		}
	})
}

func TestExamples(t *testing.T) {
	d := house.Data()
	checkOne(t, d, points(0x66, 0x61, 0xDF), api.Strict, false, false, 0)
	checkOne(t, d, points(0x66, 0x61, 0xDF), api.Transitional, false, false, 0)
	checkOne(t, d, points(0x3C2), 0, false, false, 0)
	checkOne(t, d, points(0x3C2), api.Transitional, false, false, api.BadStatus)
	checkOne(t, d, points(0x3C2), api.Transitional, false, true, 0)
	checkOne(t, d, points(0x61, 0x62, 0x2D, 0x2D, 0x63), api.CheckHyphens, false, false, api.BadHyphen)
	checkOne(t, d, points(0x61, 0x62, 0x2D, 0x2D, 0x63), 0, false, false, 0)
	checkOne(t, d, points(0x78, 0x6E, 0x2D, 0x2D, 0x61), 0, false, false, api.BadPrefix)
	checkOne(t, d, points(0x78, 0x6E, 0x2D, 0x2D, 0x61), api.CheckHyphens, false, false, api.BadHyphen)
	checkOne(t, d, points(0x300, 0x61), 0, false, false, api.BadMark)
	checkOne(t, d, points(0x61, 0x300), 0, false, false, api.NotNFC)
	checkOne(t, d, points(0x61, 0x2E), 0, false, false, api.BadDot)
	checkOne(t, d, points(0x61, 0x5F), api.UseSTD3, false, false, api.BadSTD3)
	checkOne(t, d, points(0x61, 0x5F), 0, false, false, 0)
	checkOne(t, d, points(0x41), 0, false, false, api.BadStatus)
}

// The examples of the whole that a label tells by itself.
func TestExamplesOfTheWhole(t *testing.T) {
	d := house.Data()
	checkOne(t, d, points(0x1E0D, 0x307), api.Strict, false, false, 0)
	checkOne(t, d, points(0x61, 0x302, 0x300), api.Strict, false, false, api.NotNFC)
	checkOne(t, d, points(0x1EA7), api.Strict, false, false, 0)
	checkOne(t, d, points(0x628, 0x200C, 0x628), api.Strict, true, false, 0)
	checkOne(t, d, points(0x61, 0x200C, 0x62), api.Strict, false, false, api.BadJoiner)
	checkOne(t, d, points(0x5D0, 0x31), api.Strict, true, false, 0)
	checkOne(t, d, points(0x5D0, 0x61), api.Strict, true, false, api.BadBidi)
	checkOne(t, d, points(0x31), api.Strict, true, false, api.BadBidi)
	checkOne(t, d, points(0x31), api.Strict, false, false, 0)
}

// plain is the LDH, one by one.
const plain = "abcdefghijklmnopqrstuvwxyz0123456789-"

func isPlain(c rune) bool {
	for _, p := range plain {
		if c == p {
			return true
		}
	}
	return false
}

func TestLDH(t *testing.T) {
	room := points(0x41, 0x61, 0x5F)
	for _, x := range [][]rune{nil, {}, room[:0], room[1:1], room[3:]} {
		checkLDH(t, x, true)
	}
	checkLDH(t, room[1:2], true)
	checkLDH(t, room[:2], false)
	checkLDH(t, room[1:], false)
	others := [][]rune{points(0x61), points(0x7A, 0x30), points(0x39, 0x2D, 0x2D), points(0x2D), []rune(plain), many(1000, 0x62)}
	for c := rune(-0x300); c <= 0x300; c++ {
		want := isPlain(c)
		checkLDH(t, points(c), want)
		for _, x := range others {
			checkLDH(t, slices.Concat(points(c), x), want)
			checkLDH(t, slices.Concat(x, points(c), x), want)
			checkLDH(t, slices.Concat(x, points(c)), want)
		}
		for _, bad := range points(0x41, 0x2E, 0x5F, 0, -1, 0x80) {
			checkLDH(t, points(bad, c), false)
			checkLDH(t, points(c, bad), false)
			checkLDH(t, points(0x61, bad, c), false)
		}
		checkLDH(t, many(9, c), want)
	}
	checkLDH(t, append(many(1<<20, 0x7A), 0x7B), false)
	checkLDH(t, many(1<<20, 0x7A), true)
}

// high are bits above those of ASCII: with them a letter is none, whichever of its low bits are asked.
var high = []rune{0x80, 0x100, 0x200, 0x8000, 0x10000, 0x20000, 0x100000, 0x110000, 1 << 24, 1 << 30, math.MinInt32}

func TestLowBits(t *testing.T) {
	for _, c := range plain {
		for _, h := range high {
			checkLDH(t, points(c|h), false)
			checkLDH(t, points(0x61, c|h), false)
			checkLDH(t, points(c|h, 0x61), false)
		}
		checkLDH(t, points(-c), false)
		checkLDH(t, points(^c), false)
	}
}

func TestCoded(t *testing.T) {
	prefix := points(0x78, 0x6E, 0x2D, 0x2D)
	behind := [][]rune{nil, {0x61}, {0x2D}, {0x2D, 0x2D}, {0xFC}, {-1}, {0x2E}, {0x58, 0x4E}, prefix, many(1000, 0x61), many(api.MaxPoints, 0x10FFFF)}
	checkCoded(t, nil, false)
	checkCoded(t, points(), false)
	for n := range len(prefix) + 1 {
		checkCoded(t, prefix[:n], n == 4)
		checkCoded(t, slices.Clone(prefix[:n]), n == 4)
		checkCoded(t, slices.Concat(prefix[:n], points(0x61, 0x62, 0x63, 0x64)), n == 4)
		checkCoded(t, prefix[n:], n == 0)
	}
	for _, x := range behind {
		checkCoded(t, slices.Concat(prefix, x), true)
		checkCoded(t, x, len(x) == 4)
		for _, ahead := range points(0x61, 0x2D, 0x78, 0x2E, 0x20, 0x200B, -1) {
			checkCoded(t, slices.Concat(points(ahead), prefix, x), false)
		}
	}
	for i, c := range prefix {
		changed := append(points(0, -1, c-1, c+1, -c, c-0x20, c^0x20, 0x58, 0x4E, 0x78, 0x6E, 0x2D, 0x2E, 0x5F, 0x2010, 0x2212), noPoints...)
		for _, h := range high {
			changed = append(changed, c|h)
		}
		for _, other := range changed {
			if other == c {
				continue
			}
			x := slices.Clone(prefix)
			x[i] = other
			for _, y := range behind {
				checkCoded(t, slices.Concat(x, y), false)
			}
		}
	}
	for _, x := range [][]rune{{0x58, 0x4E, 0x2D, 0x2D}, {0x58, 0x6E, 0x2D, 0x2D}, {0x78, 0x4E, 0x2D, 0x2D}, {0x6E, 0x78, 0x2D, 0x2D}, {0x2D, 0x2D, 0x78, 0x6E}, {0x78, 0x6E, 0x2D}, {0x78, 0x6E, 0x61, 0x2D, 0x2D}, {0x78, 0x2D, 0x6E, 0x2D}} {
		checkCoded(t, x, false)
		checkCoded(t, append(x, 0x61), false)
	}
}

func TestNoData(t *testing.T) {
	labels := [][]rune{nil, {}, {0x61}, {0x61, 0x62}, {0x2D}, {0x2E}, {0x78, 0x6E, 0x2D, 0x2D}, {0x5D0}, {0x300}, {0x200C}, {-1}, {0x110000}, many(api.MaxPoints+1, 0x61)}
	for _, x := range labels {
		settings(func(flags int, rtl, decoded bool) {
			for _, f := range further(flags) {
				checkOne(t, nil, x, f, rtl, decoded, 65535)
			}
		})
	}
}

func TestEmpty(t *testing.T) {
	allR := written(t, "all R", base+"bidi 0..10FFFF R\nmark 0..10FFFF\n")
	room := points(0x2D, 0x2E, 0x300, 0x200C)
	for _, w := range []*world{houseWorld(t), seatWorld(t), baseWorld(t), allR} {
		for _, x := range [][]rune{nil, {}, room[:0], room[2:2], room[4:]} {
			checkAll(t, w.d, x, 0)
		}
	}
}

// What nothing is wrong with, in both tables.
func TestNothingWrong(t *testing.T) {
	for _, w := range []*world{houseWorld(t), seatWorld(t), baseWorld(t)} {
		for _, x := range [][]rune{{0x61}, {0x61, 0x62, 0x63}, {0x61, 0x31}, {0x61, 0x2D, 0x62}, {0x61, 0x2D, 0x2D, 0x62}, {0x61, 0x62, 0x63, 0x2D, 0x2D, 0x62}, {0x78, 0x6E, 0x2D, 0x61}, many(1000, 0x61)} {
			checkAll(t, w.d, x, 0)
		}
	}
	d := house.Data()
	for _, x := range [][]rune{{0xE0}, {0xDF}, {0x5D0}, {0x5D0, 0x5B7}, {0x628, 0x660}, {0x9C7 - 0x32, 0x9BE}, {0xAC00}, {0x61, 0x323}, {0x10428}} {
		checkAll(t, d, x, 0)
	}
}

func TestNotNFC(t *testing.T) {
	d := seatWorld(t).d
	for _, x := range [][]rune{{0x61, 0x300}, {0x62, 0x300, 0x323}, {0x1F0}, {0x1F1}, {0x62, 0x1F2}, {0x62, 0x61, 0x323, 0x302}, {0xAC00, 0x11A8}, {0x1100, 0x1161}, {0x1100, 0x1161, 0x11A8}, {0x9C7, 0x9BE}, {0x62, 0x61, 0x302, 0x62}} {
		checkAll(t, d, x, api.NotNFC)
	}
	for _, x := range [][]rune{{0xE0}, {0x62, 0x323, 0x300}, {0x62, 0x300}, {0xAC01}, {0x1100}, {0x1161, 0x1100}, {0x9CB}, {0x9C7, 0x323, 0x9BE}, {0xE1, 0x300}, {0xD800}, {0x10FFFE}} {
		checkAll(t, d, x, 0)
	}
	h := house.Data()
	checkAll(t, h, points(0x61, 0x302, 0x300), api.NotNFC)
	checkAll(t, h, points(0x61, 0x300), api.NotNFC)
	checkAll(t, h, points(0x62, 0x300, 0x323), api.NotNFC)
	checkAll(t, h, points(0x212B), api.NotNFC|api.BadStatus)
	checkAll(t, h, points(0x1100, 0x1161), api.NotNFC|api.BadStatus)
}

// Numbers that are no code points are their own normal form, starters among what is round them.
func TestNoPoints(t *testing.T) {
	w := seatWorld(t)
	for _, c := range noPoints {
		can := api.BadStatus
		if c < 0 {
			can |= api.BadSTD3
		}
		for _, x := range [][]rune{{c}, {c, c}, {0x61, c}, {c, 0x61}, {0x61, c, 0x62}, {c, 0x300}, {c, 0x323, 0x300}, {0x61, c, 0x300}} {
			checkAll(t, w.d, x, can)
		}
		for _, x := range [][]rune{{c, 0x300, 0x323}, {c, 0x61, 0x300}, {0x61, 0x300, c}, {c, 0x1F0}, {0x1F1, c}} {
			is, e := norm.Is(w.d, x)
			if is || e != api.OK {
				t.Errorf("13.3: Is of %X: %t, %v", x, is, e)
			}
			checkAll(t, w.d, x, can|api.NotNFC)
		}
	}
}

// A label that is longer than norm takes is NotNFC, and is asked all else as any other.
func TestTooLongForNorm(t *testing.T) {
	const most = api.MaxPoints
	d := seatWorld(t).d
	for _, n := range []int{most - 1, most, most + 1, most + 2, 2 * most} {
		can := api.Errs(0)
		if n > most {
			can = api.NotNFC
		}
		x := many(n, 0x61)
		for _, c := range []struct {
			at   int
			c    rune
			more api.Errs
		}{{0, 0x61, 0}, {0, 0x2D, api.BadHyphen | api.BadBidi}, {n - 1, 0x2D, api.BadHyphen | api.BadBidi}, {n - 1, 0x2E, api.BadDot | api.BadSTD3 | api.BadBidi}, {0, 0x400, api.BadMark}, {n - 1, 0x400, 0}, {n - 1, 0x100, api.BadStatus}, {n - 1, 0x108, deviating}, {n - 1, 0x5F, api.BadSTD3}, {n - 1, 0x200D, api.BadJoiner}, {n - 1, 0x5D0, api.BadBidi}} {
			before := x[c.at]
			x[c.at] = c.c
			for _, flags := range []int{0, api.Strict, api.Flags, api.Transitional} {
				checkOne(t, d, x, flags, true, false, under(can|c.more, flags, true, false))
			}
			checkOne(t, d, x, api.Flags, false, true, under(can|c.more, api.Flags, false, true))
			x[c.at] = before
		}
		coded := append(points(0x78, 0x6E, 0x2D, 0x2D), x[4:]...)
		checkOne(t, d, coded, 0, false, false, can|api.BadPrefix)
		checkOne(t, d, coded, api.CheckHyphens, false, false, can|api.BadHyphen)
	}
}

// All labels of one to six numbers, each a letter or the hyphen; the rest of their numbers are of two kinds.
func TestHyphens(t *testing.T) {
	d := seatWorld(t).d
	for n := 1; n <= 6; n++ {
		for bits := range 1 << n {
			s := make([]byte, n)
			for _, letter := range []byte("aq") {
				for i := range n {
					s[i] = letter
					if bits>>i&1 != 0 {
						s[i] = '-'
					}
				}
				can := api.Errs(0)
				if s[0] == '-' || s[n-1] == '-' || n > 3 && string(s[2:4]) == "--" {
					can = api.BadHyphen
				}
				if s[0] == '-' || s[n-1] == '-' {
					can |= api.BadBidi
				}
				checkAll(t, d, []rune(string(s)), can)
			}
		}
	}
}

func TestHyphensByHand(t *testing.T) {
	d := house.Data()
	for s, want := range map[string]api.Errs{
		"-": api.BadHyphen, "--": api.BadHyphen, "---": api.BadHyphen, "-a": api.BadHyphen, "a-": api.BadHyphen, "a-b": 0, "ab-": api.BadHyphen, "ab-c": 0, "a--b": 0, "abc-": api.BadHyphen, "abc-d": 0, "ab-cd": 0,
		"ab--": api.BadHyphen, "ab--c": api.BadHyphen, "a---b": api.BadHyphen, "a---": api.BadHyphen, "abc--d": 0, "ab-c-d": 0, "a-b-c": 0, "a-bc-d": 0, "abcd--ef": 0, "-ab": api.BadHyphen, "xn--": api.BadHyphen, "xn-a": 0,
	} {
		checkOne(t, d, []rune(s), api.CheckHyphens, false, false, want)
		checkOne(t, d, []rune(s), api.CheckHyphens, false, true, want)
	}
	// what is only like a hyphen is none
	seat := seatWorld(t).d
	for _, c := range points(0x2010, 0x2011, 0x2212, 0xAD, 0x12D, 0x1002D, 0x102D, 0xFF0D, 0x82D) {
		for _, x := range [][]rune{{c}, {c, 0x61}, {0x61, c}, {0x61, 0x61, c, c}, {0x61, 0x61, c, 0x2D, 0x61}, {0x61, 0x61, 0x2D, c, 0x61}, {0x78, 0x6E, c, c}, {0x78, 0x6E, 0x2D, c}} {
			checkAll(t, seat, x, 0)
		}
	}
}

func TestPrefix(t *testing.T) {
	for _, w := range []*world{houseWorld(t), seatWorld(t), baseWorld(t)} {
		for _, behind := range [][]rune{{0x61}, {0x31}, {0x61, 0x62, 0x63}, {0x2D, 0x61}, {0x78, 0x6E, 0x2D, 0x2D, 0x61}, many(100, 0x61)} {
			checkAll(t, w.d, slices.Concat(points(0x78, 0x6E, 0x2D, 0x2D), behind), api.BadPrefix|api.BadHyphen)
		}
		for _, x := range [][]rune{{0x78}, {0x78, 0x6E}, {0x78, 0x6E, 0x2D, 0x61}, {0x78, 0x6E, 0x61}, {0x61, 0x78, 0x6E, 0x2D, 0x2D, 0x61}, {0x78, 0x61, 0x6E, 0x2D, 0x2D, 0x61}} {
			checkAll(t, w.d, x, 0)
		}
		for _, x := range [][]rune{{0x78, 0x61, 0x2D, 0x2D, 0x61}, {0x61, 0x6E, 0x2D, 0x2D, 0x61}, {0x6E, 0x78, 0x2D, 0x2D, 0x61}} {
			checkAll(t, w.d, x, api.BadHyphen)
		}
	}
	checkAll(t, baseWorld(t).d, points(0x78, 0x6E, 0x2D, 0x2D), api.BadPrefix|api.BadHyphen)
	checkAll(t, house.Data(), points(0x78, 0x6E, 0x2D, 0x2D), api.BadPrefix|api.BadHyphen|api.BadBidi)
	checkAll(t, house.Data(), points(0x78, 0x6E, 0x2D, 0x2D, 0xFC), api.BadPrefix|api.BadHyphen)
	checkAll(t, house.Data(), points(0x58, 0x6E, 0x2D, 0x2D, 0x61), api.BadHyphen|api.BadStatus|api.BadSTD3)
}

func TestDots(t *testing.T) {
	d := baseWorld(t).d
	for _, x := range [][]rune{{0x2E}, {0x2E, 0x61}, {0x61, 0x2E}, {0x61, 0x2E, 0x62}, {0x2E, 0x2E}, {0x61, 0x2E, 0x2E, 0x62}, append(many(1000, 0x61), 0x2E), append(points(0x2E), many(1000, 0x61)...)} {
		checkAll(t, d, x, api.BadDot|api.BadSTD3)
	}
	h := house.Data() // where the full stop is a CS
	checkAll(t, h, points(0x2E), api.BadDot|api.BadSTD3|api.BadBidi)
	checkAll(t, h, points(0x2E, 0x61), api.BadDot|api.BadSTD3|api.BadBidi)
	checkAll(t, h, points(0x61, 0x2E), api.BadDot|api.BadSTD3|api.BadBidi)
	checkAll(t, h, points(0x61, 0x2E, 0x62), api.BadDot|api.BadSTD3)
	seat := seatWorld(t).d
	for _, c := range points(0x3002, 0xFF0E, 0xFF61, 0x12E, 0x1002E, 0x2024, 0xAE) {
		checkAll(t, seat, points(c), 0)
		checkAll(t, seat, points(0x61, c, 0x62), 0)
	}
	checkAll(t, seat, points(0x61, 0x2F), api.BadSTD3)
	checkAll(t, seat, points(0x61, 0x2C), api.BadSTD3)
}

func TestMarks(t *testing.T) {
	d := seatWorld(t).d
	for _, c := range points(0x300, 0x301) { // marks of a class, NSM
		checkAll(t, d, points(c), api.BadMark|api.BadBidi)
		checkAll(t, d, points(c, 0x61), api.BadMark|api.BadBidi)
		checkAll(t, d, points(0x62, c), 0)
		checkAll(t, d, points(0x62, c, c), 0)
		checkAll(t, d, points(0x62, c, 0x62), 0)
	}
	for _, c := range points(0x400, 0x94D, 0x7A) { // starters, a virama and a letter that are marks
		checkAll(t, d, points(c), api.BadMark)
		checkAll(t, d, points(c, 0x61), api.BadMark)
		checkAll(t, d, points(c, c), api.BadMark)
		checkAll(t, d, points(0x61, c), 0)
		checkAll(t, d, points(0x61, c, 0x62), 0)
	}
	checkAll(t, d, points(0x10FFFF), api.BadMark)
	checkAll(t, d, points(0x61, 0x10FFFF), 0)
	for _, c := range points(0x302, 0x303) { // of a class, and no marks
		checkAll(t, d, points(c), api.BadBidi)
		checkAll(t, d, points(c, 0x61), api.BadBidi)
	}
	checkAll(t, d, points(0x94E), 0)
	checkAll(t, d, points(0x3FF, 0x400), 0)
	checkAll(t, d, points(0x401), 0)
	h := house.Data()
	checkAll(t, h, points(0x300, 0x61), api.BadMark|api.BadBidi)
	checkAll(t, h, points(0x903, 0x915), api.BadMark)
	checkAll(t, h, points(0x9BE), api.BadMark)
	checkAll(t, h, points(0x915, 0x903), 0)
	checkAll(t, h, points(0x345), api.BadMark|api.BadBidi|api.BadStatus)
}

func TestStatuses(t *testing.T) {
	d := seatWorld(t).d
	for c, can := range map[rune]api.Errs{
		0xFF: 0, 0x100: api.BadStatus, 0x101: api.BadStatus, 0x102: api.BadStatus, 0x103: api.BadStatus, 0x104: api.BadStatus, 0x105: api.BadStatus, 0x106: api.BadStatus, 0x107: api.BadStatus, 0x108: deviating, 0x109: deviating, 0x10A: 0,
		0xD800: 0, 0xDFFF: 0, 0x110000: api.BadStatus, math.MaxInt32: api.BadStatus,
	} {
		for _, x := range [][]rune{{c}, {c, c}, {c, 0x61}, {0x61, c}, {0x61, c, 0x62}, append(many(50, 0x61), c), append(points(c), many(50, 0x61)...)} {
			checkAll(t, d, x, can)
		}
		checkAll(t, d, points(0x100, c), api.BadStatus)
		checkAll(t, d, points(c, 0x101), api.BadStatus)
		checkAll(t, d, points(0x108, c), can|deviating)
		checkAll(t, d, points(c, 0x108), can|deviating)
	}
	h := house.Data()
	for c, can := range map[rune]api.Errs{0xDF: 0, 0x1E9E: deviating, 0x3C2: deviating, 0xAD: api.BadStatus, 0xC0: api.BadStatus, 0x130: api.BadStatus, 0x250: api.BadStatus, 0xFF21: api.BadStatus, 0x3002: api.BadStatus, 0x10401: api.BadStatus, 0x10400: 0} {
		checkAll(t, h, points(c), can)
		checkAll(t, h, points(0x61, c), can)
	}
	// a joiner is a Deviation, of which Transitional says something where it fits, too
	checkAll(t, h, points(0x915, 0x94D, 0x200D, 0x937), deviating)
	checkAll(t, h, points(0x915, 0x200D), deviating|api.BadJoiner|api.BadBidi)
	b := baseWorld(t).d
	for c := rune(0); c < 0x80; c++ {
		switch {
		case isPlain(c):
		case c == 0x2E:
			checkAll(t, b, points(c), api.BadDot|api.BadSTD3)
		default:
			checkAll(t, b, points(c), api.BadStatus|api.BadSTD3)
		}
	}
}

// Each number below 80 by itself and with others, in a table in which all of them are Valid; and those from 80 on.
func TestSTD3(t *testing.T) {
	d := written(t, "ascii", base+"valid 0..2C\nvalid 2F\nvalid 3A..60\nvalid 7B..10FFFF\n").d
	for c := rune(0); c < 0x80; c++ {
		can, ends := api.Errs(0), api.Errs(0)
		if !isPlain(c) {
			can = api.BadSTD3
		}
		if c == 0x2E {
			can |= api.BadDot
		}
		if c == 0x2D {
			ends = api.BadHyphen
		}
		checkAll(t, d, points(c), can|ends)
		checkAll(t, d, points(c, 0x61), can|ends)
		checkAll(t, d, points(0x61, c, 0x62), can)
		checkAll(t, d, points(0xFC, c, 0x62), can)
		checkAll(t, d, points(0x61, c), can|ends)
		checkAll(t, d, points(0xFC, c), can|ends)
	}
	for c := rune(-0x90); c < 0; c++ {
		checkAll(t, d, points(c), api.BadSTD3|api.BadStatus)
		checkOne(t, d, points(0x61, c), api.UseSTD3, false, false, api.BadSTD3|api.BadStatus)
		checkOne(t, d, points(c, 0x61), api.UseSTD3, false, false, api.BadSTD3|api.BadStatus)
	}
	for c := rune(0x80); c < 0x200; c++ {
		checkAll(t, d, points(c), 0)
		checkOne(t, d, points(0x61, c), api.UseSTD3, false, false, 0)
	}
	for _, h := range high {
		for _, c := range points(0x41, 0x5F, 0x2E, 0x20) {
			switch n := c | h; {
			case n < 0:
				checkAll(t, d, points(n), api.BadSTD3|api.BadStatus)
			case n > api.MaxRune:
				checkAll(t, d, points(n), api.BadStatus)
			default:
				checkAll(t, d, points(n), 0)
			}
		}
	}
}

func TestJoiners(t *testing.T) {
	d := seatWorld(t).d
	for _, x := range [][]rune{{0x200C}, {0x200D}, {0x61, 0x200C}, {0x61, 0x200D, 0x62}, {0x94E, 0x200D}, {0x628, 0x61, 0x200C, 0x61}, {0x61, 0x200D, 0x94D}, append(many(1000, 0x61), 0x200D)} {
		can := api.BadJoiner
		if x[0] == 0x628 {
			can |= api.BadBidi
		}
		checkAll(t, d, x, can)
	}
	for _, x := range [][]rune{{0x61, 0x94D, 0x200C}, {0x61, 0x94D, 0x200D}, {0x626, 0x200C, 0x627}, {0x626, 0x301, 0x200C, 0x301, 0x627}, {0x61, 0x200B, 0x62}, {0x61, 0x200E}, {0x61, 0x1200C}, {0x61, 0x94D, 0x200D, 0x94D, 0x200C, 0x62}} {
		checkAll(t, d, x, 0)
	}
	// the first joiner fits, and one behind it does not
	checkAll(t, d, points(0x61, 0x94D, 0x200D, 0x61, 0x200D), api.BadJoiner)
	checkAll(t, d, points(0x94D, 0x200D), api.BadMark)
	h := house.Data()
	checkAll(t, h, points(0x628, 0x200C, 0x628), deviating)
	checkAll(t, h, points(0x627, 0x200C, 0x628), deviating|api.BadJoiner)
	checkAll(t, h, points(0x200C), deviating|api.BadJoiner|api.BadBidi)
}

func TestBidi(t *testing.T) {
	d := seatWorld(t).d
	for _, x := range [][]rune{{0x5D0, 0x61}, {0x61, 0x5D0}, {0x31}, {0x31, 0x5D0}, {0x660}, {0x240}, {0x5D0, 0x240}, {0x61, 0x240}, {0x628, 0x660, 0x31}, {0x61, 0x660}, {0x302, 0x5D0}, append(many(1000, 0x61), 0x5D0)} {
		checkAll(t, d, x, api.BadBidi)
	}
	for _, x := range [][]rune{{0x5D0}, {0x628}, {0x5D0, 0x31}, {0x5D0, 0x660}, {0x5D0, 0x2D, 0x5D0}, {0x61, 0x31}, {0x61, 0x240, 0x61}, {0x5D0, 0x303}, {0x62, 0x303}} {
		checkAll(t, d, x, 0)
	}
	h := house.Data()
	checkAll(t, h, points(0x5D0, 0x31), 0)
	checkAll(t, h, points(0x5D0, 0x61), api.BadBidi)
	checkAll(t, h, points(0x31), api.BadBidi)
	checkAll(t, h, points(0x5D0, 0x2D, 0x61), api.BadBidi)
}

// Labels of which many things are wrong at once: each is told beside the others.
func TestTogether(t *testing.T) {
	d := seatWorld(t).d
	for _, c := range []struct {
		x   []rune
		can api.Errs
	}{
		{points(0x2D, 0x2E), api.BadHyphen | api.BadDot | api.BadSTD3 | api.BadBidi},
		{points(0x2E, 0x2D), api.BadHyphen | api.BadDot | api.BadSTD3 | api.BadBidi},
		{points(0x300, 0x2E, 0x100, 0x200D, 0x61, 0x300, 0x2D), nine &^ api.BadPrefix},
		{points(0x78, 0x6E, 0x2D, 0x2D, 0x2E, 0x100, 0x200D, 0x5D0, 0x61, 0x300), nine &^ api.BadMark},
		{points(0x78, 0x6E, 0x2D, 0x2D, 0x108, 0x5F, 0x2D), api.BadPrefix | api.BadHyphen | api.BadSTD3 | api.BadBidi | deviating},
		{points(0x400, 0x108, 0x1F0), api.BadMark | api.NotNFC | deviating},
		{points(0x400, 0x61, 0x2D, 0x2D), api.BadMark | api.BadHyphen | api.BadBidi},
		{points(0x300, 0x300, 0x323), api.BadMark | api.NotNFC | api.BadBidi},
		{points(-1, 0x2E, 0x1F1), api.NotNFC | api.BadDot | api.BadStatus | api.BadSTD3},
		{points(0x7A, 0x6E, 0x2D, 0x2D, 0x41), api.BadMark | api.BadHyphen | api.BadSTD3},
		{points(0x5D0, 0x200C, 0x109, 0x61), api.BadJoiner | api.BadBidi | deviating},
		{points(0x102, 0x200D, 0x108, 0x20), api.BadStatus | api.BadJoiner | api.BadSTD3 | deviating},
	} {
		checkAll(t, d, c.x, c.can)
	}
	h := house.Data()
	checkAll(t, h, points(0x300, 0x41, 0x2E, 0x200D, 0x5D0, 0x61, 0x300, 0x2D), nine&^api.BadPrefix)
	checkAll(t, h, points(0x78, 0x6E, 0x2D, 0x2D, 0x212B, 0x3C2, 0x200C), (nine|deviating)&^(api.BadMark|api.BadDot|api.BadSTD3))
	// all pairs: each thing beside each other one, and all but one of them
	parts := []struct {
		x   []rune
		can api.Errs
	}{{points(0x1F1), api.NotNFC}, {points(0x62, 0x2E, 0x62), api.BadDot | api.BadSTD3}, {points(0x106), api.BadStatus}, {points(0x108), deviating}, {points(0x5F), api.BadSTD3}, {points(0x62, 0x200D, 0x62), api.BadJoiner}, {points(0x62, 0x5D0, 0x62), api.BadBidi}}
	for i, a := range parts {
		var rest []rune
		var can api.Errs
		for k, b := range parts {
			checkAll(t, d, slices.Concat(points(0x62), a.x, b.x, points(0x62)), a.can|b.can)
			checkAll(t, d, slices.Concat(points(0x400), b.x, a.x, points(0x62)), a.can|b.can|api.BadMark)
			checkAll(t, d, slices.Concat(points(0x78, 0x6E, 0x2D, 0x2D), b.x, a.x, points(0x62)), a.can|b.can|api.BadPrefix|api.BadHyphen)
			if k != i {
				rest, can = slices.Concat(rest, b.x), can|b.can
			}
		}
		checkAll(t, d, slices.Concat(points(0x62), rest, points(0x62)), can)
	}
}

// All short labels of what is told apart, under all settings: what the chapter says, and 18.3.
func TestShort(t *testing.T) {
	for _, c := range []struct {
		w        *world
		alphabet []rune
		most     int
	}{
		{houseWorld(t), points(0x61, 0x2D, 0x2E, 0x5F, 0x41, 0x300, 0x3C2, 0x94D, 0x200D, 0x5D0, 0x31), 3},
		{seatWorld(t), points(0x61, 0x2D, 0x2E, 0x5F, 0x100, 0x108, 0x300, 0x94D, 0x200C, 0x628, 0x1F0, -1), 3},
		{seatWorld(t), points(0x78, 0x6E, 0x2D, 0xFC), 5},
	} {
		eachLabel(c.alphabet, c.most, func(x []rune) {
			settings(func(flags int, rtl, decoded bool) { c.w.check(t, x, flags, rtl, decoded) })
			for _, flags := range []int{0, api.CheckHyphens, api.Transitional, api.Strict, api.Flags} {
				c.w.checkPromises(t, x, flags, false, false)
				c.w.checkPromises(t, x, flags, true, true)
			}
		})
	}
}

// eachLabel goes through all labels of at most most numbers of an alphabet, the empty one first.
func eachLabel(alphabet []rune, most int, look func(x []rune)) {
	var longer func(x []rune)
	longer = func(x []rune) {
		look(x)
		if len(x) < most {
			for _, c := range alphabet {
				longer(append(slices.Clone(x), c))
			}
		}
	}
	longer(nil)
}

// One flag more, under all settings (18.3), of labels with many and with few faults.
func TestOneFlagMore(t *testing.T) {
	for _, w := range []*world{houseWorld(t), seatWorld(t)} {
		for _, x := range [][]rune{nil, {0x61}, {0x78, 0x6E, 0x2D, 0x2D, 0x61}, {0x78, 0x6E, 0x2D, 0x2D}, {0x2D}, {0x61, 0x62, 0x2D, 0x2D}, {0x2E}, {0x300}, {0x61, 0x300}, {0x5F}, {-1}, {0x3C2}, {0x108}, {0x200C}, {0x5D0, 0x61}, {0x300, 0x41, 0x2E, 0x200D, 0x5D0, 0x61, 0x300, 0x2D}} {
			settings(func(flags int, rtl, decoded bool) {
				for _, f := range further(flags) {
					w.checkPromises(t, x, f, rtl, decoded)
				}
			})
		}
	}
}

func TestDrawn(t *testing.T) {
	draw := rand.New(rand.NewPCG(18, 3))
	worlds := []*world{houseWorld(t), seatWorld(t), baseWorld(t)}
	for range 120 {
		worlds = append(worlds, drawnWorld(t, draw))
	}
	told, alone := map[api.Errs]int{}, map[api.Errs]int{}
	for k, w := range worlds {
		n := 400
		if k < 3 {
			n = 8000
		}
		for range n {
			x := w.drawn(draw, 7)
			flags, rtl, decoded := draw.IntN(64), draw.IntN(2) == 0, draw.IntN(2) == 0
			if draw.IntN(4) == 0 {
				flags = int(draw.Uint64())
			}
			set := w.check(t, x, flags, rtl, decoded)
			w.checkPromises(t, x, flags, rtl, decoded)
			alone[set]++
			for e := api.Errs(1); e <= api.BadDomain; e <<= 1 {
				told[e&set]++
			}
		}
		w.check(t, w.drawn(draw, 500), api.Flags, true, false)
		w.check(t, w.drawn(draw, 500), api.Strict, true, true)
	}
	for e := api.NotNFC; e <= api.BadBidi; e <<= 1 {
		if told[e] < 500 || alone[e] < 50 {
			t.Errorf("of the drawn labels %d have the error %d, %d of them alone", told[e], e, alone[e])
		}
	}
	if alone[0] < 2000 {
		t.Errorf("of the drawn labels nothing is wrong with %d", alone[0])
	}
}

// Nothing is kept: tables that say other things of the same numbers are asked in turn.
func TestNothingKept(t *testing.T) {
	valid := written(t, "valid", base+"valid 100\n").d
	mapped := written(t, "mapped", base+"mapped 100 61\n").d
	deviation := written(t, "deviation", base+"deviation 100 61\nmark 100\n").d
	opens := written(t, "opens", base+"valid 100\nopens 100 61\n").d
	right := written(t, "right", base+"valid 100\nbidi 100 R\nbidi 61 R\n").d
	x := points(0x100, 0x61)
	for range 3 {
		checkAll(t, valid, x, 0)
		checkAll(t, mapped, x, api.BadStatus)
		checkAll(t, deviation, x, api.BadMark|deviating)
		checkAll(t, opens, x, api.NotNFC)
		checkAll(t, right, x, 0)
		checkAll(t, right, append(x, 0x62), api.BadBidi)
		checkOne(t, nil, x, 0, false, false, 65535)
	}
	// what is written over behind a call is asked anew
	x[1] = 0x2D
	checkAll(t, valid, x, api.BadHyphen)
	x[0] = 0x101
	checkAll(t, valid, x, api.BadHyphen|api.BadStatus)
}

// What is handed in is not changed, its spare room included, and is all that is asked of the memory round it.
func TestUnchanged(t *testing.T) {
	w := houseWorld(t)
	for _, x := range [][]rune{{}, {0x61}, {0x78, 0x6E, 0x2D, 0x2D, 0x61}, {0x61, 0x302, 0x300}, {0x62, 0x300, 0x323}, {0x300, 0x41, 0x2E, 0x200D, 0x5D0, 0x61, 0x300, 0x2D}, {-1, 0x110000, 0x300, 0x323}, {0x1100, 0x1161, 0x11A8}, {0x3C2, 0x200C}} {
		room := slices.Concat(points(0x2E, 0x5F), x, points(0x2D, 0x2D, 0x323, 0x300, 0x2E, -1))
		before := slices.Clone(room)
		part := room[2 : 2+len(x)]
		for _, d := range []*ucd.Data{w.d, nil} {
			settings(func(flags int, rtl, decoded bool) {
				if label.Check(d, part, flags, rtl, decoded) != label.Check(d, x, flags, rtl, decoded) {
					t.Errorf("18.2: Check of %X with other memory round it, flags %d", x, flags)
				}
			})
		}
		if label.LDH(part) != label.LDH(x) || label.Coded(part) != label.Coded(x) {
			t.Errorf("18.1: LDH or Coded of %X with other memory round it", x)
		}
		if !slices.Equal(room, before) {
			t.Errorf("18: what was handed in, %X, or its spare room, is changed: %X", before, room)
		}
	}
	for _, c := range w.all {
		if w.d.Status(c) != w.of(c).status || w.d.Mark(c) != w.of(c).mark || w.d.Bidi(c) != w.of(c).bidi || w.d.Join(c) != w.of(c).join {
			t.Errorf("18: Data tells something else of %X behind the calls", c)
		}
	}
}

// Long labels take as many steps a number as short ones.
func TestLong(t *testing.T) {
	const n = 1 << 20
	d := house.Data()
	checkOne(t, d, many(n, 0x61), api.Strict, true, false, api.NotNFC)
	checkOne(t, d, many(n, 0x2D), api.Flags, true, false, api.NotNFC|api.BadHyphen|api.BadBidi)
	checkOne(t, d, many(n, 0x200C), api.Flags, true, false, api.NotNFC|api.BadStatus|api.BadJoiner|api.BadBidi)
	checkOne(t, d, many(api.MaxPoints, 0x300), api.Strict, true, false, api.BadMark|api.BadBidi)
	checkOne(t, d, many(api.MaxPoints/2, 0x300, 0x323), api.Strict, false, false, api.BadMark|api.NotNFC)
	checkOne(t, d, many(api.MaxPoints/2, 0x94D, 0x200D), api.Strict, false, true, api.BadMark)
}
