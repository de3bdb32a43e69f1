package looks_test

import (
	"slices"
	"testing"

	"endonym/api"
	"endonym/house"
	"endonym/looks"
	"endonym/table"
	"endonym/ucd"
)

func checkSkeleton(t *testing.T, w *world, x, want []rune) {
	t.Helper()
	if y, e := looks.Skeleton(w.d, x); !slices.Equal(y, want) || e != api.OK {
		t.Errorf("22.1: %s: Skeleton of %d, %X: %d, %X, %d, want %d, %X", w.name, len(x), some(x), len(y), some(y), int(e), len(want), some(want))
	}
}

// checkAlike asks both ways round.
func checkAlike(t *testing.T, w *world, x, y []rune, want bool) {
	t.Helper()
	for range 2 {
		if ok, e := looks.Alike(w.d, x, y); ok != want || e != api.OK {
			t.Errorf("22.1: %s: Alike of %d, %X, and %d, %X: %v, %d", w.name, len(x), some(x), len(y), some(y), ok, int(e))
		}
		x, y = y, x
	}
}

// checkScripts holds Scripts to what is wanted, and Plain to how many these are.
func checkScripts(t *testing.T, w *world, x []rune, want ...string) {
	t.Helper()
	if l := looks.Scripts(w.d, x); !slices.Equal(l, want) {
		t.Errorf("22.2: %s: Scripts of %d, %X: %q, want %q", w.name, len(x), some(x), l, want)
	}
	if ok := looks.Plain(w.d, x); ok != (len(want) < 2) {
		t.Errorf("22.2: %s: Plain of %d, %X: %v", w.name, len(x), some(x), ok)
	}
}

func checkFake(t *testing.T, w *world, x []rune, want bool) {
	t.Helper()
	if ok := looks.Fake(w.d, x); ok != want {
		t.Errorf("22.3: %s: Fake of %d, %X: %v", w.name, len(x), some(x), ok)
	}
}

// checkLong is that a sequence is refused for its length, wherever it stands, whatever stands beside it.
func checkLong(t *testing.T, w *world, x []rune) {
	t.Helper()
	if y, e := looks.Skeleton(w.d, x); len(y) > 0 || e != api.ErrLong {
		t.Errorf("22.1: %s: Skeleton of %d, %X: %d, %X, %d, want ErrLong", w.name, len(x), some(x), len(y), some(y), int(e))
	}
	for _, pair := range [][2][]rune{{x, nil}, {nil, x}, {points(0x61), x}, {x, x}, {x, many(api.MaxPoints+1, 0x62)}} {
		if ok, e := looks.Alike(w.d, pair[0], pair[1]); ok || e != api.ErrLong {
			t.Errorf("22.1: %s: Alike of %d, %X, and %d, %X: %v, %d, want ErrLong", w.name, len(pair[0]), some(pair[0]), len(pair[1]), some(pair[1]), ok, int(e))
		}
	}
	checkFake(t, w, x, false)
}

func TestExamples(t *testing.T) {
	w := houseWorld(t)
	w.d = house.Data()
	checkSkeleton(t, w, points(0x430, 0x43E), points(0x61, 0x6F))
	checkSkeleton(t, w, points(0xE4), points(0x61, 0x308))
	checkAlike(t, w, points(0x430), points(0x61), true)
	checkAlike(t, w, points(0x131), points(0x69), true)
	checkFake(t, w, points(0x430), true)
	checkFake(t, w, points(0x61), false)
	checkFake(t, w, points(0x44F), false)
	checkScripts(t, w, points(0x61, 0x430, 0x31), "Cyrl", "Latn")
	checkScripts(t, w, points(0x61, 0x31), "Latn")
	checkScripts(t, w, points(0x61, 0x430), "Cyrl", "Latn")
}

func TestWithoutData(t *testing.T) {
	long := many(api.MaxPoints+1, 0x430)
	for _, x := range [][]rune{nil, {}, {0x61}, {0x430}, {0x61, 0x430}, {0xE4, 0x300, 0x323}, {-1}, many(api.MaxPoints, 0x61), long, many(3*api.MaxPoints, 0xAC01)} {
		if y, e := looks.Skeleton(nil, x); len(y) > 0 || e != api.ErrArg {
			t.Errorf("22.1: Skeleton of %d without Data: %X, %d", len(x), some(y), int(e))
		}
		for _, y := range [][]rune{nil, {0x61}, {0x430}, long} {
			if ok, e := looks.Alike(nil, x, y); ok || e != api.ErrArg {
				t.Errorf("22.1: Alike of %d and %d without Data: %v, %d", len(x), len(y), ok, int(e))
			}
		}
		if l := looks.Scripts(nil, x); len(l) > 0 || looks.Plain(nil, x) {
			t.Errorf("22.2: of %d without Data: %q, or Plain", len(x), l)
		}
		if looks.Fake(nil, x) {
			t.Errorf("22.3: Fake of %d without Data", len(x))
		}
	}
}

func TestSkeleton(t *testing.T) {
	w := houseWorld(t)
	for _, c := range []struct{ x, want []rune }{
		{nil, nil}, {points(), nil}, {points(0x61), points(0x61)}, {points(0x62, 0x61), points(0x62, 0x61)},
		{points(0x430), points(0x61)}, {points(0x30, 0x31), points(0x6F, 0x6C)}, {points(0x131, 0x142, 0x3BF, 0x3BD, 0x3C1), points(0x69, 0x6C, 0x6F, 0x76, 0x70)},
		{points(0x435, 0x43E, 0x440, 0x441, 0x443, 0x445, 0x456, 0x458), points(0x65, 0x6F, 0x70, 0x63, 0x79, 0x78, 0x69, 0x6A)}, {points(0x6CC), points(0x649)}, {points(0x30FB), points(0xB7)},
		// themselves alone: no case is turned, nothing is mapped
		{points(0x41, 0x410, 0x200C, 0xAD, 0xDF, 0x2E, 0x442), points(0x41, 0x410, 0x200C, 0xAD, 0xDF, 0x2E, 0x442)},
		// that open to what looks like something
		{points(0x451), points(0x65, 0x308)}, {points(0x439), points(0x438, 0x306)}, {points(0x1EA7), points(0x61, 0x302, 0x300)}, {points(0x212B), points(0x41, 0x30A)},
		{points(0xAC00, 0xAC01), points(0x1100, 0x1161, 0x1100, 0x1161, 0x11A8)}, {points(0x451, 0x323, 0x435, 0x308), points(0x65, 0x323, 0x308, 0x65, 0x308)},
		{points(0x430, 0x300, 0x323), points(0x61, 0x323, 0x300)}, {points(0x300, 0x323), points(0x323, 0x300)}, {points(0x300, 0x430, 0x323), points(0x300, 0x61, 0x323)},
		{points(-1), points(-1)}, {points(-0x430, 0x430, 0x110430), points(-0x430, 0x61, 0x110430)}, {points(0xD800, 0x10FFFF, 0), points(0xD800, 0x10FFFF, 0)},
	} {
		checkSkeleton(t, w, c.x, c.want)
	}
	w = twistWorld(t)
	for _, c := range []struct{ x, want []rune }{
		// one, several, as many as may be
		{points(0x100), points(0x61)}, {points(0x101), points(0x61, 0x62)}, {points(0x101, 0x100, 0x101), points(0x61, 0x62, 0x61, 0x61, 0x62)}, {points(0x102), append(many(23, 0x61), 0x62)},
		// themselves, and what looks like something else in turn: it is asked once
		{points(0x103), points(0x103)}, {points(0x104), points(0x104, 0x104)}, {points(0x105), points(0x106)}, {points(0x106), points(0x61)}, {points(0x107, 0x108), points(0x108, 0x107)}, {points(0x109), points(0x62, 0x109, 0x62)},
		// what opens: it is opened behind, and what comes of that is not asked again
		{points(0x110), points(0x61, 0x300)}, {points(0x111), points(0x61, 0x300, 0x301)}, {points(0x112), points(0x41, 0x30A)}, {points(0x113), points(0x1100, 0x1161)}, {points(0x114), points(0x1100, 0x1161, 0x11A8, 0x61)}, {points(0x115), points(0x1100, 0x1161)},
		// and ahead: what opens is not asked, what it opens to is
		{points(0xE0), points(0x61, 0x300)}, {points(0xAC01), points(0x1100, 0x1161, 0x11A8)}, {points(0xC5), points(0x41, 0x301)}, {points(0x212B), points(0x41, 0x301)}, {points(0x1102), points(0x117)}, {points(0xB098), points(0x117, 0x1161)}, {points(0xB0D0), points(0x117, 0x62, 0x62)}, {points(0x138), points(0x65)}, {points(0x129), points(0x323, 0x300)},
		// marks that stand otherwise than their classes want
		{points(0x120), points(0x323, 0x300)}, {points(0x61, 0x120, 0x334), points(0x61, 0x334, 0x323, 0x300)}, {points(0x121), points(0x301, 0x61, 0x323)}, {points(0x300, 0x121, 0x334), points(0x300, 0x301, 0x61, 0x334, 0x323)}, {points(0x61, 0x323, 0x122), points(0x61, 0x334, 0x323)}, {points(0x12E), points(0x61, 0x334, 0x323, 0x300)}, {points(0x123, 0x323), points(0x61, 0x323, 0x300)},
		// a starter that looks like a mark: it parts marks ahead, and no more behind
		{points(0x301, 0x124, 0x323), points(0x323, 0x301, 0x300)}, {points(0x323, 0x301, 0x124, 0x316), points(0x323, 0x301, 0x300, 0x300)},
		// marks that look like marks of other classes, like letters, like what does
		{points(0x61, 0x125, 0x323), points(0x61, 0x323, 0x302)}, {points(0x61, 0x323, 0x125), points(0x61, 0x323, 0x302)}, {points(0x61, 0x300, 0x125), points(0x61, 0x302, 0x300)}, {points(0x300, 0x126, 0x323), points(0x323, 0x300, 0x61)}, {points(0x127, 0x300, 0x334), points(0x334, 0x316, 0x300)}, {points(0x300, 0x127, 0x334), points(0x334, 0x316, 0x300)}, {points(0x128), points(0x334, 0x301)}, {points(0x128, 0x128), points(0x334, 0x334, 0x301, 0x301)}, {points(0x12A, 0x316), points(0x300, 0x124)},
		{points(0x2000), many(16, 0x302, 0x2105)}, {points(0x2100), many(16, 0x302, 0x2105)}, {points(0x2000, 0x62), append(many(16, 0x302, 0x2105), 0x62)},
		{points(-0x100, 0x100, 0x110100, -1, 0x110000), points(-0x100, 0x61, 0x110100, -1, 0x110000)},
	} {
		checkSkeleton(t, w, c.x, c.want)
	}
	w = baseWorld(t)
	checkSkeleton(t, w, points(0x430, 0xE4, 0x300, 0x323, 0x100), points(0x430, 0xE4, 0x300, 0x323, 0x100))
	checkSkeleton(t, w, points(0x30, 0xAC00), points(0x30, 0x1100, 0x1161))
}

// What is no code point looks like itself, though its last bits are one's that does not.
func TestNoPoints(t *testing.T) {
	for _, w := range []*world{houseWorld(t), twistWorld(t), longWorld(t), baseWorld(t)} {
		for _, c := range noPoints {
			checkSkeleton(t, w, points(c), points(c))
			checkSkeleton(t, w, points(0x61, c, c), points(0x61, c, c))
			checkAlike(t, w, points(c), points(c), true)
			checkAlike(t, w, points(c), points(0x61), false)
			checkScripts(t, w, points(c))
			checkFake(t, w, points(c), false)
		}
		for _, c := range noPoints[1:] {
			checkAlike(t, w, points(c), noPoints[:1], false)
		}
	}
}

// Every number that the house or the twists say something of, every syllable, and their neighbours.
func TestEach(t *testing.T) {
	t.Parallel()
	for _, w := range []*world{houseWorld(t), twistWorld(t)} {
		for c := rune(-0x500); c <= 0x110500; c++ {
			if c < 0x3200 || c >= 0x4DF0 && c < 0x5010 || c > 0x8C40 && c < 0x8C50 || c >= 0xABF0 && c <= 0xE010 || c > 0xF8F0 && c < 0x10500 || c > 0x1E8F0 && c < 0x1E950 || c > 0x110000-0x20 {
				holdAll(t, w, points(c))
			}
		}
	}
}

// holdAll holds each call that is asked of one sequence to the words.
func holdAll(t *testing.T, w *world, x []rune) {
	t.Helper()
	want, wanted := w.skeleton(x)
	if y, e := looks.Skeleton(w.d, x); !slices.Equal(y, want) || e != wanted {
		t.Errorf("22.1: %s: Skeleton of %d, %X: %d, %X, %d, want %d, %X, %d", w.name, len(x), some(x), len(y), some(y), int(e), len(want), some(want), int(wanted))
	}
	checkScripts(t, w, x, w.names(x)...)
	checkFake(t, w, x, w.fake(x))
}

func TestLong(t *testing.T) {
	t.Parallel()
	for _, w := range []*world{houseWorld(t), twistWorld(t), longWorld(t), baseWorld(t)} {
		// as many numbers as may be, none of which opens, or looks like several
		for _, unit := range []rune{0x61, 0x430, 0x30, 0x301, 0x4E00, -1, 0x110000} {
			x := many(api.MaxPoints, unit)
			like, _ := w.skeleton(points(unit))
			checkSkeleton(t, w, x, many(api.MaxPoints, like...))
			checkAlike(t, w, x, slices.Clone(x), true)
			checkAlike(t, w, x, x[1:], false)
			checkAlike(t, w, x, nil, false)
			checkFake(t, w, x, unit >= 0 && unit != 0x61 && unit != 0x30 && like[0] <= 0x7F)
			checkLong(t, w, many(api.MaxPoints+1, unit))
			checkLong(t, w, many(3*api.MaxPoints, unit))
		}
		// an NFD of as many as may be, and of one more
		for _, half := range [][]rune{many(api.MaxPoints/2, 0xAC00), many(api.MaxPoints/2, 0xD788)} {
			want, _ := w.skeleton(half)
			checkSkeleton(t, w, half, want)
			if len(want) != api.MaxPoints {
				t.Errorf("%s: %d of %X: %d", w.name, len(half), half[0], len(want))
			}
			checkLong(t, w, append(slices.Clone(half), 0x61))
			checkLong(t, w, slices.Concat(points(-1), half))
			checkLong(t, w, append(slices.Clone(half), half[0]))
			three := slices.Concat(half[:len(half)-2], points(0xAC01))
			want, _ = w.skeleton(three)
			checkSkeleton(t, w, three, want)
			checkSkeleton(t, w, append(three, 0x78), append(want, 0x78))
			checkLong(t, w, append(three, 0x62, 0x61))
		}
		checkLong(t, w, many(api.MaxPoints, 0xAC01))
		checkLong(t, w, many(api.MaxPoints/3+1, 0xAC01))
	}
}

// The house's opened letters, 65,536 numbers from as many less as there are letters.
func TestLongOpened(t *testing.T) {
	t.Parallel()
	w := houseWorld(t)
	checkSkeleton(t, w, many(api.MaxPoints/2, 0x451), many(api.MaxPoints/2, 0x65, 0x308))
	checkFake(t, w, many(api.MaxPoints/2, 0x451), false)
	checkLong(t, w, many(api.MaxPoints/2+1, 0x451))
	checkSkeleton(t, w, append(many(api.MaxPoints/3, 0x1EA7), 0x430), append(many(api.MaxPoints/3, 0x61, 0x302, 0x300), 0x61))
	checkLong(t, w, append(many(api.MaxPoints/3, 0x1EA7), 0x430, 0x430))
	// all marks of one row
	checkSkeleton(t, w, many(api.MaxPoints/2, 0x300, 0x323), append(many(api.MaxPoints/2, 0x323), many(api.MaxPoints/2, 0x300)...))
	checkLong(t, w, append(many(api.MaxPoints/2, 0x300, 0x323), 0x334))
	// the longest of all NFDs
	w = longWorld(t)
	checkSkeleton(t, w, many(api.MaxPoints/32, 0x2100), many(api.MaxPoints/2, 0x61, 0x62))
	checkLong(t, w, append(many(api.MaxPoints/32, 0x2100), 0x61))
	checkLong(t, w, many(api.MaxPoints/32+1, 0x2100))
	checkLong(t, w, many(api.MaxPoints, 0x2100))
}

// What Looks makes of an NFD that is not too long.
func TestLongLikenesses(t *testing.T) {
	t.Parallel()
	w := longWorld(t)
	letters := make([]rune, 24)
	for i := range letters {
		letters[i] = 0x61 + rune(i)
	}
	most := many(api.MaxPoints/24, 0x100) // and 16 more may be
	want := many(api.MaxPoints/24, letters...)
	checkSkeleton(t, w, most, want)
	for _, behind := range []struct{ x, like []rune }{{many(16, 0x61), many(16, 0x61)}, {many(8, 0x101), many(8, 0x61, 0x62)}, {many(7, 0x101), many(7, 0x61, 0x62)}} {
		x := slices.Concat(most, behind.x)
		checkSkeleton(t, w, x, slices.Concat(want, behind.like))
		checkFake(t, w, x, true)
		checkAlike(t, w, x, slices.Concat(want, behind.like), true)
		checkLong(t, w, slices.Concat(x, many(17-len(behind.like), 0x61)))
		checkLong(t, w, slices.Concat(many(17-len(behind.like), 0x61), x))
		checkLong(t, w, slices.Concat(x[:len(most)-1], points(0x102), x[len(most)-1:], many(16-len(behind.like), 0x101)))
	}
	checkLong(t, w, append(slices.Clone(most), 0x100))
	checkSkeleton(t, w, many(api.MaxPoints/2, 0x101), many(api.MaxPoints/2, 0x61, 0x62))
	checkLong(t, w, append(many(api.MaxPoints/2, 0x101), 0x61))
	checkLong(t, w, append(points(0x61), many(api.MaxPoints/2, 0x101)...))
	checkLong(t, w, many(api.MaxPoints/2+1, 0x101))
	checkLong(t, w, many(api.MaxPoints, 0x101))
	checkLong(t, w, many(api.MaxPoints, 0x100))
	checkLong(t, w, append(many(api.MaxPoints-1, 0x61), 0x101))
	// opened first, alike then
	checkSkeleton(t, w, slices.Concat(many(api.MaxPoints/2-1, 0xE0), points(0x101)), slices.Concat(many(api.MaxPoints/2-1, 0x61, 0x323), points(0x61, 0x62)))
	checkLong(t, w, slices.Concat(many(api.MaxPoints/2-1, 0xE0), points(0x101, 0x62)))
	checkLong(t, w, slices.Concat(many(api.MaxPoints/2-1, 0xE0), points(0x62, 0x101)))
}

// Only the last NFD may tell more numbers than that: no bound is named for it.
func TestLongAtLast(t *testing.T) {
	t.Parallel()
	w := longWorld(t)
	for _, c := range []struct {
		unit rune
		like []rune
	}{{0x102, points(0x61, 0x300)}, {0x103, many(16, 0x61, 0x62)}, {0x104, points(0x1100, 0x1161, 0x11A8)}} {
		x, want := many(api.MaxPoints, c.unit), many(api.MaxPoints, c.like...)
		checkSkeleton(t, w, x, want)
		checkSkeleton(t, w, x[:1], c.like)
		half := api.MaxPoints / len(c.like)
		for _, n := range []int{half - 1, half, half + 1, api.MaxPoints - 1} {
			checkSkeleton(t, w, x[:n], want[:n*len(c.like)])
		}
		checkAlike(t, w, x, slices.Clone(x), true)
		checkAlike(t, w, x, x[1:], false)
		checkAlike(t, w, x, slices.Concat(x[1:], points(0x62)), false)
		checkFake(t, w, x, c.unit == 0x103)
		checkFake(t, w, append(x[:len(x)-1:len(x)-1], 0x80), false)
		checkLong(t, w, append(x[:len(x):len(x)], 0x61))
		// what it tells is itself too long
		checkLong(t, w, want)
	}
	x := many(api.MaxPoints/24, 0x105)
	checkSkeleton(t, w, x, many(24*16*len(x), 0x61, 0x62))
	checkSkeleton(t, w, append(x, many(16, 0x103)...), many(16*api.MaxPoints, 0x61, 0x62))
	checkLong(t, w, append(x, many(17, 0x103)...))
	// alike by the last NFD alone, which is too long to be asked
	checkAlike(t, w, many(api.MaxPoints/2, 0x103, 0x102), many(api.MaxPoints/2, 0x103, 0x102), true)
	checkAlike(t, w, many(api.MaxPoints/2, 0x103, 0x102), many(api.MaxPoints/2, 0x102, 0x103), false)
	// a row of 65,536 marks is put in order at last
	w = twistWorld(t)
	checkSkeleton(t, w, many(api.MaxPoints/2, 0x120), append(many(api.MaxPoints/2, 0x323), many(api.MaxPoints/2, 0x300)...))
	checkLong(t, w, append(many(api.MaxPoints/2, 0x120), 0x334))
}

func TestAlike(t *testing.T) {
	h, w := houseWorld(t), twistWorld(t)
	for _, c := range []struct {
		w    *world
		x, y []rune
		want bool
	}{
		{h, nil, nil, true}, {h, nil, points(), true}, {h, nil, points(0x61), false}, {h, points(0x61), points(0x61), true}, {h, points(0x61), points(0x62), false}, {h, points(-1), points(-1), true},
		// by their Looks
		{h, points(0x430), points(0x61), true}, {h, points(0x131), points(0x456), true}, {h, points(0x43E), points(0x3BF), true}, {h, points(0x30), points(0x6F), true}, {h, points(0x31), points(0x142), true}, {h, points(0x441, 0x430), points(0x63, 0x61), true}, {h, points(0x3C1, 0x443, 0x445), points(0x440, 0x79, 0x78), true},
		{w, points(0x100), points(0x61), true}, {w, points(0x101), points(0x61, 0x62), true}, {w, points(0x101), points(0x100, 0x62), true}, {w, points(0x107), points(0x108), false}, {w, points(0x105), points(0x106), false}, {w, points(0x105), points(0x61), false}, {w, points(0x104), points(0x103, 0x103), false}, {w, points(0x104), points(0x104), true}, {w, points(0x107), points(0x107), true},
		// by their NFD
		{h, points(0xE4), points(0x61, 0x308), true}, {h, points(0x1EA7), points(0xE2, 0x300), true}, {h, points(0x61, 0x323, 0x300), points(0x61, 0x300, 0x323), true}, {h, points(0xC5), points(0x212B), true}, {h, points(0xAC01), points(0xAC00, 0x11A8), true}, {h, points(0x61, 0x300, 0x301), points(0x61, 0x301, 0x300), false}, {h, points(0xE4), points(0xE5), false},
		// by both
		{h, points(0x451), points(0xEB), true}, {h, points(0x435, 0x308), points(0xEB), true}, {h, points(0xE4), points(0x430, 0x308), true}, {h, points(0xE0, 0x323), points(0x430, 0x323, 0x300), true}, {h, points(0x430, 0x300, 0x323), points(0xE0, 0x323), true},
		{w, points(0x110), points(0xE0), true}, {w, points(0x110), points(0x123), true}, {w, points(0x111), points(0x1E00), true}, {w, points(0x113), points(0x115), true}, {w, points(0x120), points(0x300, 0x323), true}, {w, points(0x61, 0x120), points(0xE0, 0x323), true}, {w, points(0x128), points(0x301, 0x334), true}, {w, points(0x301, 0x124, 0x323), points(0x323, 0x301, 0x300), true},
		// not alike: what looks like what opens is not asked twice
		{w, points(0x112), points(0x212B), false}, {w, points(0xC5), points(0x41, 0x301), true}, {w, points(0xE0), points(0x63), false}, {w, points(0x63), points(0x430), true}, {w, points(0xAC01), points(0x63), false},
		// one begins the other
		{h, points(0x61), points(0x61, 0x300), false}, {h, points(0x430), points(0x61, 0x61), false}, {h, points(0xE0), points(0x61), false}, {h, points(0x61, 0x430), points(0x430, 0x430), true}, {h, points(0x61, 0x62), points(0x62, 0x61), false},
		// no case is turned, nothing mapped, nothing left out
		{h, points(0x41), points(0x61), false}, {h, points(0x410), points(0x430), false}, {h, points(0x61, 0xAD), points(0x61), false}, {h, points(0xDF), points(0x73, 0x73), false},
	} {
		checkAlike(t, c.w, c.x, c.y, c.want)
		checkAlike(t, c.w, c.x, slices.Clone(c.x), true)
	}
}

func TestAlikeOfLong(t *testing.T) {
	t.Parallel()
	for _, w := range []*world{houseWorld(t), longWorld(t)} {
		fits := [][]rune{nil, {0x61}, {-1}, many(api.MaxPoints, 0x61), many(api.MaxPoints/2, 0xAC00)}
		long := [][]rune{many(api.MaxPoints+1, 0x61), many(api.MaxPoints+1, -1), many(api.MaxPoints/2+1, 0xAC00), many(api.MaxPoints, 0xE0)}
		if w.name == "long" {
			fits = append(fits, many(api.MaxPoints/2, 0x101), many(api.MaxPoints, 0x102))
			long = append(long, many(api.MaxPoints/2+1, 0x101), many(api.MaxPoints, 0x100))
		}
		for _, x := range long {
			for _, y := range slices.Concat(fits, long) {
				for range 2 {
					if ok, e := looks.Alike(w.d, x, y); ok || e != api.ErrLong {
						t.Errorf("22.1: %s: Alike of %d, %X, and %d, %X: %v, %d", w.name, len(x), some(x), len(y), some(y), ok, int(e))
					}
					x, y = y, x
				}
			}
		}
		for i, x := range fits {
			for j, y := range fits {
				checkAlike(t, w, x, y, i == j)
			}
		}
	}
}

func TestScripts(t *testing.T) {
	w := houseWorld(t)
	for _, c := range []struct {
		x    []rune
		want []string
	}{
		{nil, nil}, {points(), nil}, {points(0x61), []string{"Latn"}}, {points(0x31), nil}, {points(0x31, 0x2D, 0x300, 0x200C), nil}, {points(-1, 0x110000), nil}, {points(0xD800, 0x10FFFF, 0), nil},
		// one, said by many
		{points(0x61, 0x7A, 0x41, 0xE0, 0x1EA7), []string{"Latn"}}, {points(0x61, 0x31, 0x62, 0x2D), []string{"Latn"}}, {points(0x31, 0x61), []string{"Latn"}}, {many(1000, 0x430), []string{"Cyrl"}}, {points(0x4E00, 0x8C48), []string{"Hani"}},
		// several, in the order of their names
		{points(0x61, 0x430, 0x31, 0x62), []string{"Cyrl", "Latn"}}, {points(0x430, 0x61), []string{"Cyrl", "Latn"}}, {points(0x30A1, 0x3041, 0x4E00), []string{"Hani", "Hira", "Kana"}}, {points(0x4E00, 0x3041, 0x30A1, 0x3041), []string{"Hani", "Hira", "Kana"}},
		{points(0x1E900, 0x10400, 0xAC00, 0x4E00, 0x30A1, 0x3041, 0x985, 0x905, 0x621, 0x5D0, 0x400, 0x391, 0x61), []string{"Adlm", "Arab", "Beng", "Cyrl", "Deva", "Dsrt", "Grek", "Hang", "Hani", "Hebr", "Hira", "Kana", "Latn"}},
		{points(0x61, 0x391, 0x400, 0x5D0, 0x621, 0x905, 0x985, 0x3041, 0x30A1, 0x4E00, 0xAC00, 0x10400, 0x1E900), []string{"Adlm", "Arab", "Beng", "Cyrl", "Deva", "Dsrt", "Grek", "Hang", "Hani", "Hebr", "Hira", "Kana", "Latn"}},
		// of the numbers, not of what they open to or look like: 451 opens to what looks like a Latin letter, 1E0D to one
		{points(0x451, 0x435), []string{"Cyrl"}}, {points(0x1E0D), nil}, {points(0x212B), nil}, {points(0x131), []string{"Latn"}}, {points(0x6CC), []string{"Arab"}}, {points(0x30FB), nil}, {points(0x1100, 0x1161), nil}, {points(0x1EA6), []string{"Latn"}},
		// what is mapped to letters, or left out, has its own script or none
		{points(0xAA, 0xFB01), nil}, {points(0x1E9E), []string{"Latn"}}, {points(0x640), nil},
	} {
		checkScripts(t, w, c.x, c.want...)
	}
	w = twistWorld(t)
	for _, c := range []struct {
		x    []rune
		want []string
	}{
		{points(0, 0x10FFFF), []string{"Aaaa", "Zzzz"}}, {points(0x10FFFF, 0), []string{"Aaaa", "Zzzz"}}, {points(0x1F, 0x20), []string{"Zzzz"}}, {points(0x10FFFD), nil}, {points(0x10FFFE, 0x110000), []string{"Aaaa"}},
		{points(0xE0), []string{"Grek"}}, {points(0x61, 0x300), []string{"Aaab", "Latn"}}, {points(0x100, 0x110), nil}, {points(0x63, 0x430), []string{"Cyrl", "Latn"}}, {points(0x1E00, 0x61), []string{"Latn"}},
		{points(0xDF, 0xE1, 0x61), []string{"Latm", "Latn", "Lato"}}, {points(0xD7FE), nil}, {points(0xD7FF, 0xD800, 0xDFFF, 0xE000), []string{"Surr"}}, {points(0xE001), nil}, {points(0x300, 0x10FFFF), []string{"Aaaa", "Aaab"}},
		{points(0, 0x61, 0xC0, 0xE0, 0xE1, 0x300, 0x430, 0xD800, 0x10FFFF), []string{"Aaaa", "Aaab", "Cyrl", "Grek", "Latm", "Latn", "Lato", "Surr", "Zzzz"}},
	} {
		checkScripts(t, w, c.x, c.want...)
	}
	checkScripts(t, baseWorld(t), points(0x61, 0x430, 0x4E00))
}

// No length is refused where no error is told.
func TestScriptsOfLong(t *testing.T) {
	w := houseWorld(t)
	for _, n := range []int{api.MaxPoints - 1, api.MaxPoints, api.MaxPoints + 1, 3 * api.MaxPoints} {
		checkScripts(t, w, many(n, 0x61), "Latn")
		checkScripts(t, w, many(n, 0x31))
		checkScripts(t, w, append(many(n-1, 0x61), 0x430), "Cyrl", "Latn")
		checkScripts(t, w, append(points(0x430), many(n-1, 0x61)...), "Cyrl", "Latn")
		checkScripts(t, w, append(many(n-1, 0x31), 0x430), "Cyrl")
		checkScripts(t, w, many(n, 0xAC01), "Hang")
	}
}

// crowd is a table with 900 scripts, whose names go down as their numbers go up.
func crowd(t *testing.T) (*world, []string) {
	t.Helper()
	l, _, _ := table.Parse(base)
	var names []string
	for i := range 900 {
		names = append(names, string([]rune{'A' + rune(i/100), 'a' + rune(i/10%10), 'a' + rune(i%10), 'z'}))
	}
	for i, name := range names {
		l = append(l, api.Record{Kind: api.KScript, Lo: 0x2000 - 2*i, Hi: 0x2000 - 2*i + 1, Name: name})
	}
	return worldOf(t, "crowd", l), names
}

func TestManyScripts(t *testing.T) {
	t.Parallel()
	w, names := crowd(t)
	var up, down []rune
	for i := range names {
		down = append(down, 0x2000-2*rune(i))
		up = append(points(0x2001-2*rune(i)), up...)
	}
	for range 20 {
		checkScripts(t, w, up, names...)
		checkScripts(t, w, down, names...)
		checkScripts(t, w, slices.Concat(up, points(0x61), down), names...)
	}
	for i, name := range names {
		checkScripts(t, w, points(up[len(up)-1-i], down[i], 0x61), name)
		checkScripts(t, w, down[:i], names[:i]...)
		checkScripts(t, w, up[:i], names[len(names)-i:]...)
	}
}

func TestPlain(t *testing.T) {
	w := houseWorld(t)
	for _, c := range []struct {
		x    []rune
		want bool
	}{
		{nil, true}, {points(), true}, {points(0x31), true}, {points(0x31, 0x2D, 0x300), true}, {points(-1), true}, {points(0x61), true}, {points(0x61, 0x62, 0x63), true}, {points(0x61, 0x31), true}, {points(0x31, 0x430), true}, {points(0x430, 0x44F), true},
		{points(0x61, 0x430), false}, {points(0x430, 0x61), false}, {points(0x61, 0x31, 0x430), false}, {points(0x31, 0x61, 0x430, 0x3B1), false}, {points(0x3041, 0x30A1), false}, {append(many(1000, 0x61), 0x430), false},
	} {
		if ok := looks.Plain(w.d, c.x); ok != c.want {
			t.Errorf("22.2: Plain of %d, %X: %v", len(c.x), some(c.x), ok)
		}
	}
}

func TestFake(t *testing.T) {
	w := houseWorld(t)
	for _, c := range []struct {
		x    []rune
		want bool
	}{
		{nil, false}, {points(), false},
		// ASCII, whatever it looks like
		{points(0x61), false}, {points(0x30), false}, {points(0x31, 0x30), false}, {points(0, 0x7F), false}, {points(0x2E), false},
		// beyond ASCII, but the Skeleton is not
		{points(0x430), true}, {points(0x131), true}, {points(0x430, 0x61), true}, {points(0x61, 0x430), true}, {points(0x441, 0x430, 0x442), false}, {points(0x440, 0x430, 0x443), true}, {points(0x3BF, 0x2E, 0x43E), true}, {points(0x142, 0x30), true},
		// nor is it
		{points(0x44F), false}, {points(0x430, 0x44F), false}, {points(0x44F, 0x430), false}, {points(0xE4), false}, {points(0x451), false}, {points(0x430, 0x300), false}, {points(0x6CC), false}, {points(0x30FB), false}, {points(0xAC00), false}, {points(0x80), false}, {points(-1), false}, {points(0x430, -1), false}, {points(0x110000, 0x430), false}, {points(-0x61), false}, {points(0x100061), false},
		// what is mapped to ASCII does not look like it
		{points(0xFF21), false}, {points(0xAA), false}, {points(0x212A), false}, {points(0x3002), false}, {points(0xAD), false},
	} {
		checkFake(t, w, c.x, c.want)
	}
	w = twistWorld(t)
	for _, c := range []struct {
		x    []rune
		want bool
	}{
		{points(0x100), true}, {points(0x101), true}, {points(0x102), true}, {points(0x105), false}, {points(0x106), true}, {points(0x109), false}, {points(0x110), false},
		// the ends of ASCII
		{points(0x130), true}, {points(0x131), false}, {points(0x132), true}, {points(0x81), true}, {points(0x80), false}, {points(0x82), false}, {points(0x133), false}, {points(0x134), false}, {points(0x135), false}, {points(0x130, 0x131), false}, {points(0x131, 0x130), false},
		// ASCII that looks like what is none
		{points(0x7F), false}, {points(0x63), false}, {points(0x7E, 0x63), false}, {points(0x63, 0x100), false}, {points(0x7E, 0x100), true}, {points(0x7F, 0x100), false},
		// by opening alone, ahead of what it looks like or behind it
		{points(0x136), true}, {points(0x137), true}, {points(0x138), true}, {points(0x139), true}, {points(0x126), true}, {points(0xE0), false}, {points(0x1102), false}, {points(0xB0D0), false}, {points(0x1163), true},
	} {
		checkFake(t, w, c.x, c.want)
	}
	checkFake(t, baseWorld(t), points(0x430), false)
}

// A number looks like one at least, so that no Skeleton but that of no number is empty: a record that says otherwise makes
// no right table.
func TestNothingLooksLikeNothing(t *testing.T) {
	l, _, _ := table.Parse(base)
	at := len(l)
	if d, place, e := ucd.Compile(append(l, api.Record{Kind: api.KLooks, Lo: 0x100, Hi: 0x100})); d != nil || place != at || e != api.ErrField {
		t.Errorf("22.3: a number that looks like none is taken: %d, %d", place, int(e))
	}
	for _, w := range []*world{houseWorld(t), twistWorld(t), longWorld(t), baseWorld(t)} {
		for _, c := range w.all {
			if y, e := looks.Skeleton(w.d, points(c)); len(y) == 0 || e != api.OK {
				t.Errorf("22.1: %s: Skeleton of %X: %X, %d", w.name, c, y, int(e))
			}
		}
	}
}

// overwrite writes over a list, its spare room too.
func overwrite(x []rune) {
	x = x[:cap(x)]
	for i := range x {
		x[i] = 0x7A
	}
}

func TestWhatIsHandedInStays(t *testing.T) {
	t.Parallel()
	behind := points(0x345, 0x300, 0x323, 0x430, 0xE0)
	for _, w := range []*world{houseWorld(t), twistWorld(t), longWorld(t)} {
		for _, x := range [][]rune{{}, {0x61}, {0x430, 0x61}, {0x300, 0x323}, {0xE0, 0x300, 0x323}, {0x101, 0x120, 0x128}, {0xAC01, -1}, {0x62, 0x61, 0x105}, many(api.MaxPoints+1, 0x430), many(api.MaxPoints, 0xE0), many(api.MaxPoints, 0x100)} {
			room, other := slices.Concat(x, behind), slices.Concat(behind, x, behind)
			looks.Skeleton(w.d, room[:len(x)])
			looks.Alike(w.d, room[:len(x)], other[:len(x)])
			looks.Alike(w.d, other[:len(x)], room[:len(x)])
			looks.Scripts(w.d, room[:len(x)])
			looks.Plain(w.d, room[:len(x)])
			looks.Fake(w.d, room[:len(x)])
			if !slices.Equal(room, slices.Concat(x, behind)) || !slices.Equal(other, slices.Concat(behind, x, behind)) {
				t.Errorf("22: %s: of %d, %X: what is handed in is changed, or its spare room: %X, %X", w.name, len(x), some(x), some(room), some(other))
			}
		}
	}
}

func TestAnswersAreTheirCallers(t *testing.T) {
	for _, w := range []*world{houseWorld(t), twistWorld(t), longWorld(t), baseWorld(t)} {
		for _, x := range [][]rune{{}, {0x61}, {0x61, 0x62}, {0x430}, {0x101}, {0x103}, {0x104, 0x107}, {0xE0, 0x323}, {0x113}, {-1}, many(20, 0x61), {0x61, 0x430, 0x3041}} {
			in := slices.Clone(x)
			want, _ := w.skeleton(x)
			names := w.names(x)
			y, _ := looks.Skeleton(w.d, in)
			z, _ := looks.Skeleton(w.d, in)
			l, m := looks.Scripts(w.d, in), looks.Scripts(w.d, in)
			overwrite(y)
			l = l[:cap(l)]
			for i := range l {
				l[i] = "over"
			}
			if !slices.Equal(in, x) || !slices.Equal(z, want) || !slices.Equal(m, names) {
				t.Errorf("22: %s: of %X: what is told shares memory: %X, %X, %q", w.name, x, in, z, m)
			}
			checkSkeleton(t, w, x, want)
			checkScripts(t, w, x, names...)
			// nor does it hang on what was handed in
			overwrite(in)
			if !slices.Equal(z, want) {
				t.Errorf("22.1: %s: Skeleton of %X shares memory with it: %X", w.name, x, z)
			}
		}
	}
}
