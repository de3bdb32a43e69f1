package norm_test

import (
	"math/rand/v2"
	"slices"
	"testing"

	"endonym/api"
	"endonym/house"
	"endonym/norm"
	"endonym/order"
	"endonym/ucd"
)

func points(c ...rune) []rune { return c }

func many(n int, c ...rune) []rune { return slices.Repeat(c, n) }

// some is what of a sequence is worth showing.
func some(x []rune) []rune { return x[:min(len(x), 16)] }

type call func(d *ucd.Data, x []rune) ([]rune, api.Errno)

// calls are those that tell a sequence.
var calls = []struct {
	promise, name string
	f             call
	words         func(w *world, x []rune) []rune
}{
	{"13.1", "Compose", norm.Compose, (*world).composed},
	{"13.2", "NFC", norm.NFC, (*world).normal},
}

func checkCompose(t *testing.T, w *world, x, want []rune) {
	t.Helper()
	if y, e := norm.Compose(w.d, x); !slices.Equal(y, want) || e != api.OK {
		t.Errorf("13.1: %s: Compose of %d, %X: %d, %X, %d, want %X", w.name, len(x), some(x), len(y), some(y), int(e), some(want))
	}
}

// checkNFC holds NFC to what is wanted, and Is to whether that is x.
func checkNFC(t *testing.T, w *world, x, want []rune) {
	t.Helper()
	if y, e := norm.NFC(w.d, x); !slices.Equal(y, want) || e != api.OK {
		t.Errorf("13.2: %s: NFC of %d, %X: %d, %X, %d, want %X", w.name, len(x), some(x), len(y), some(y), int(e), some(want))
	}
	checkIs(t, w, x, slices.Equal(x, want))
}

func checkIs(t *testing.T, w *world, x []rune, want bool) {
	t.Helper()
	if ok, e := norm.Is(w.d, x); ok != want || e != api.OK {
		t.Errorf("13.3: %s: Is of %d, %X: %v, %d", w.name, len(x), some(x), ok, int(e))
	}
}

func checkQuick(t *testing.T, w *world, x []rune, want int) {
	t.Helper()
	if n, e := norm.Quick(w.d, x); n != want || e != api.OK {
		t.Errorf("13.3: %s: Quick of %d, %X: %d, %d, want %d", w.name, len(x), some(x), n, int(e), want)
	}
}

func checkSafe(t *testing.T, w *world, c rune, want bool) {
	t.Helper()
	if ok := norm.Safe(w.d, c); ok != want {
		t.Errorf("13.3: %s: Safe(%X): %v", w.name, c, ok)
	}
}

// told is a sequence that a call must take.
func told(t *testing.T, f call, d *ucd.Data, x []rune) []rune {
	t.Helper()
	y, e := f(d, x)
	if e != api.OK {
		t.Fatalf("13: of %d, %X: %v", len(x), some(x), e)
	}
	return y
}

func TestExamples(t *testing.T) {
	w := houseWorld(t)
	w.d = house.Data()
	for _, c := range []struct{ x, want []rune }{
		{points(0x61, 0x302, 0x300), points(0x1EA7)}, {points(0x61, 0x300, 0x302), points(0xE0, 0x302)},
		{points(0x61, 0x323, 0x300), points(0xE0, 0x323)}, {points(0x64, 0x307, 0x323), points(0x1E0D, 0x307)}, {points(0x1E0B, 0x323), points(0x1E0D, 0x307)},
		{points(0x1100, 0x1161, 0x11A8), points(0xAC01)}, {points(0xAC00, 0x11A8), points(0xAC01)}, {points(0xAC01, 0x11A8), points(0xAC01, 0x11A8)},
		{points(0x212B), points(0xC5)}, {points(0x344), points(0x308, 0x301)}, {points(0x9C7, 0x9BE), points(0x9CB)}, {points(0x9C7, 0x323, 0x9BE), points(0x9C7, 0x323, 0x9BE)},
	} {
		checkNFC(t, w, c.x, c.want)
	}
	checkQuick(t, w, points(0x61), 2)
	checkQuick(t, w, points(0xE0), 2)
	checkQuick(t, w, points(0x300), 1)
	checkQuick(t, w, points(0x212B), 0)
	checkQuick(t, w, points(0x61, 0x323, 0x300), 1)
	checkQuick(t, w, points(0x9D7), 1)
	checkQuick(t, w, points(0x61, 0x300, 0x323), 0)
	checkQuick(t, w, points(0x323, 0x327), 0)
	checkSafe(t, w, 0x2E, true)
	checkSafe(t, w, 0xE0, true)
	checkSafe(t, w, 0x300, false)
	checkSafe(t, w, 0x11A8, false)
	checkSafe(t, w, 0xAC00, true)
}

// refusals holds every call that tells an error to one, with zero values beside it.
func refusals(t *testing.T, d *ucd.Data, x []rune, want api.Errno) {
	t.Helper()
	for _, c := range calls {
		if y, e := c.f(d, x); len(y) > 0 || e != want {
			t.Errorf("%s: %s of %d, refused: %X, %d, want %d", c.promise, c.name, len(x), some(y), int(e), int(want))
		}
	}
	if n, e := norm.Quick(d, x); n != 0 || e != want {
		t.Errorf("13.3: Quick of %d, refused: %d, %d, want %d", len(x), n, int(e), int(want))
	}
	if ok, e := norm.Is(d, x); ok || e != want {
		t.Errorf("13.3: Is of %d, refused: %v, %d, want %d", len(x), ok, int(e), int(want))
	}
}

func TestWithoutData(t *testing.T) {
	for _, x := range [][]rune{nil, {}, {0x61}, {0x61, 0x300, 0x323}, {0x212B}, many(api.MaxPoints, 0x61), many(api.MaxPoints+1, 0x61), many(2*api.MaxPoints, 0x300)} {
		refusals(t, nil, x, api.ErrArg)
	}
	for _, c := range append(points(0, 0x2E, 0x61, 0xE0, 0x300, 0x212B, 0xAC00, 0x10FFFF), noPoints...) {
		if norm.Safe(nil, c) {
			t.Errorf("13.3: Safe(%X) without Data", c)
		}
	}
}

func TestLong(t *testing.T) {
	for _, w := range []*world{houseWorld(t), bondWorld(t), baseWorld(t)} {
		for _, unit := range []rune{0x61, 0x300, 0xE0, 0xAC01, 0x212B, -1} {
			refusals(t, w.d, many(api.MaxPoints+1, unit), api.ErrLong)
			refusals(t, w.d, many(3*api.MaxPoints, unit), api.ErrLong)
		}
		// of each of these the NFC is made of the NFC of one of them
		for _, unit := range []rune{0x61, 0xE0, 0x1EA7, 0xAC01, 0x212B, 0xFB2E, 0x2038, -1} {
			most := many(api.MaxPoints, unit)
			checkCompose(t, w, most, most)
			checkNFC(t, w, most, many(api.MaxPoints, w.normal(points(unit))...))
			checkQuick(t, w, most, w.quick(points(unit)))
		}
		marks := many(api.MaxPoints, 0x300)
		checkCompose(t, w, marks, marks)
		checkNFC(t, w, marks, marks)
		checkQuick(t, w, marks, w.quick(points(0x300)))
	}
}

// As many as may be, all of which compose, and what is judged by the last of them alone.
func TestMostComposed(t *testing.T) {
	w := houseWorld(t)
	for _, c := range []struct{ x, want []rune }{
		{many(api.MaxPoints/2, 0x61, 0x300), many(api.MaxPoints/2, 0xE0)},
		{many(api.MaxPoints/4, 0x61, 0x302, 0x300, 0x323), many(api.MaxPoints/4, 0x1EA7, 0x323)},
		{many(api.MaxPoints/4, 0x1100, 0x1161, 0x11A8, 0x11A8), many(api.MaxPoints/4, 0xAC01, 0x11A8)},
		{append(points(0x61), many(api.MaxPoints-1, 0x300)...), append(points(0xE0), many(api.MaxPoints-2, 0x300)...)},
	} {
		checkNFC(t, w, c.x, c.want)
	}
	letters := many(api.MaxPoints-3, 0x61)
	for _, c := range []struct {
		end   []rune
		quick int
		want  []rune
	}{
		{points(0x61, 0x61, 0x61), 2, points(0x61, 0x61, 0x61)}, {points(0x61, 0x61, 0x300), 1, points(0x61, 0xE0)}, {points(0x61, 0x62, 0x300), 1, points(0x61, 0x62, 0x300)},
		{points(0x61, 0x61, 0x212B), 0, points(0x61, 0x61, 0xC5)}, {points(0x61, 0x300, 0x323), 0, points(0xE0, 0x323)}, {points(0x61, 0x334, 0x33D), 2, points(0x61, 0x334, 0x33D)},
	} {
		x := slices.Concat(letters, c.end)
		checkQuick(t, w, x, c.quick)
		checkNFC(t, w, x, slices.Concat(letters, c.want))
	}
}

// great is a table in which 2100 opens to 32 marks of one class, 2200 to 32 starters, 2300 to 32 numbers that compose
// to fewer, 2400 to 32 that compose to one another, number by number, as long as 16 steps go.
func great(t *testing.T) *world {
	t.Helper()
	s := bonds + "class 306 230\n"
	l := written(t, "great", s).l
	record := func(kind int, c, a, b rune) {
		l = append(l, api.Record{Kind: kind, Lo: int(c), Hi: int(c), To: points(a, b)})
	}
	for _, c := range []struct{ from, last rune }{{0x2100, 0x306}, {0x2200, 0x63}, {0x2400, 0x2009}} {
		for step := range rune(4) {
			record(api.KOpens, c.from+step, c.from+step+1, c.from+step+1)
		}
		record(api.KOpens, c.from+4, c.last, c.last)
	}
	for step := range rune(4) {
		record(api.KOpens, 0x2300+step, 0x2301+step, 0x2301+step)
	}
	record(api.KOpens, 0x2304, 0x61, 0x300)
	// 61 and one to sixteen times 303: 2501 to 2510
	record(api.KDecomp, 0x2501, 0x61, 0x303)
	for n := range rune(15) {
		record(api.KDecomp, 0x2502+n, 0x2501+n, 0x303)
	}
	return worldOf(t, "great", l)
}

// What NFD tells may have more numbers than a call takes, up to 32 times as many: it is composed all the same.
func TestGreatNFD(t *testing.T) {
	w := great(t)
	for _, c := range []struct {
		x, want []rune
		quick   int
	}{
		{many(api.MaxPoints, 0xAC01), many(api.MaxPoints, 0xAC01), 2},
		{many(api.MaxPoints, 0x1E03), many(api.MaxPoints, 0x1E03), 2},
		{many(api.MaxPoints, 0x2510), many(api.MaxPoints, 0x2510), 2},
		{many(api.MaxPoints, 0x2100), many(32*api.MaxPoints, 0x306), 0},
		{many(api.MaxPoints, 0x2200), many(32*api.MaxPoints, 0x63), 0},
		{many(api.MaxPoints, 0x2300), many(16*api.MaxPoints, 0xE0), 0},
		{append(many(api.MaxPoints-2, 0xAC01), 0xAC00, 0x11A8), many(api.MaxPoints-1, 0xAC01), 1},
		// a mark comes to the starter past two million others, or is kept from it by them
		{slices.Concat(points(0x61), many(api.MaxPoints-2, 0x2100), points(0x345)), append(points(0x1E04), many(32*(api.MaxPoints-2), 0x306)...), 0},
		{slices.Concat(points(0x61), many(api.MaxPoints-2, 0x2100), points(0x300)), slices.Concat(points(0x61), many(32*(api.MaxPoints-2), 0x306), points(0x300)), 0},
		// of two million of one number each three compose
		{many(api.MaxPoints-1, 0x2400), many(32*(api.MaxPoints-1)/3, 0x200C), 0},
	} {
		checkNFC(t, w, c.x, c.want)
		checkQuick(t, w, c.x, c.quick)
		if len(c.want) > api.MaxPoints {
			refusals(t, w.d, c.want, api.ErrLong)
		}
	}
}

// A composed number composes with the next one, as far as a table may nest it.
func TestComposedOnAndOn(t *testing.T) {
	w := great(t)
	for n := 1; n <= 40; n++ {
		x := append(points(0x61), many(n, 0x303)...)
		want := append(points(0x2500+rune(min(n, 16))), many(max(n-16, 0), 0x303)...)
		checkCompose(t, w, x, want)
		checkNFC(t, w, x, want)
		checkQuick(t, w, x, api.Maybe)
		checkNFC(t, w, slices.Concat(x, points(0x327)), slices.Concat(want[:1], points(0x327), want[1:]))
		checkNFC(t, w, slices.Concat(x, points(0x300)), slices.Concat(want, points(0x300)))
		if n <= 16 {
			checkQuick(t, w, want, api.Yes)
			checkSafe(t, w, want[0], true)
		}
	}
}

func TestCompose(t *testing.T) {
	w := houseWorld(t)
	for _, c := range []struct{ x, want []rune }{
		{nil, nil}, {points(), nil}, {points(0x61), points(0x61)}, {points(0x300), points(0x300)}, {points(0x61, 0x300), points(0xE0)}, {points(0x300, 0x61), points(0x300, 0x61)},
		// no starter yet
		{points(0x300, 0x301), points(0x300, 0x301)}, {points(0x300, 0x61, 0x300), points(0x300, 0xE0)}, {points(0x323, 0x300, 0x64, 0x323), points(0x323, 0x300, 0x1E0D)}, {points(0x345, 0x300, 0x61, 0x300), points(0x345, 0x300, 0xE0)},
		// blocked by one of its own class, by one of a greater class, by a starter
		{points(0x61, 0x33D, 0x300), points(0x61, 0x33D, 0x300)}, {points(0x62, 0x300, 0x300), points(0x62, 0x300, 0x300)}, {points(0x61, 0x315, 0x300), points(0x61, 0x315, 0x300)}, {points(0x64, 0x33D, 0x323), points(0x64, 0x33D, 0x323)},
		{points(0x61, 0x62, 0x300), points(0x61, 0x62, 0x300)}, {points(0x61, 0, 0x300), points(0x61, 0, 0x300)}, {points(0x61, 0x31A, 0x300), points(0x61, 0x31A, 0x300)},
		// the one that blocks stands further ahead, and one of a lesser class beside it
		{points(0x61, 0x315, 0x323, 0x300), points(0x61, 0x315, 0x323, 0x300)}, {points(0x61, 0x33D, 0x334, 0x323, 0x300), points(0x61, 0x33D, 0x334, 0x323, 0x300)}, {points(0x61, 0x315, 0x300, 0x345), points(0x61, 0x315, 0x300, 0x345)}, {points(0x3B1, 0x315, 0x323, 0x345), points(0x1FB3, 0x315, 0x323)},
		// not blocked: all between are of lesser classes
		{points(0x61, 0x323, 0x300), points(0xE0, 0x323)}, {points(0x61, 0x334, 0x327, 0x323, 0x300), points(0xE0, 0x334, 0x327, 0x323)}, {points(0x61, 0x323, 0x334, 0x300), points(0xE0, 0x323, 0x334)}, {points(0x3B1, 0x300, 0x315, 0x345), points(0x1FB3, 0x300, 0x315)},
		// what has composed blocks no more; what is laid down does
		{points(0x61, 0x301, 0x300), points(0xE1, 0x300)}, {points(0x61, 0x302, 0x300, 0x300), points(0x1EA7, 0x300)}, {points(0x61, 0x302, 0x323, 0x300), points(0x1EA7, 0x323)}, {points(0x61, 0x323, 0x302, 0x300), points(0x1EA7, 0x323)}, {points(0x61, 0x302, 0x301, 0x300), points(0xE2, 0x301, 0x300)},
		{points(0x61, 0x300, 0x323), points(0xE0, 0x323)}, {points(0x64, 0x307, 0x323), points(0x1E0B, 0x323)}, {points(0x64, 0x323, 0x307), points(0x1E0D, 0x307)},
		// each starter for itself
		{points(0x61, 0x300, 0x61, 0x301, 0x62, 0x300, 0x65, 0x302), points(0xE0, 0xE1, 0x62, 0x300, 0xEA)}, {points(0x61, 0x33D, 0x300, 0x65, 0x300), points(0x61, 0x33D, 0x300, 0xE8)}, {points(0x61, 0x61, 0x300), points(0x61, 0xE0)},
		// two starters
		{points(0x9C7, 0x9BE), points(0x9CB)}, {points(0x9C7, 0x9D7), points(0x9CC)}, {points(0x9C7, 0x9C7, 0x9BE, 0x9BE), points(0x9C7, 0x9CB, 0x9BE)}, {points(0x9BE, 0x9C7), points(0x9BE, 0x9C7)}, {points(0x9C7, 0x334, 0x9BE), points(0x9C7, 0x334, 0x9BE)}, {points(0x9C7, 0x61, 0x9BE), points(0x9C7, 0x61, 0x9BE)}, {points(0x9C7, 0x9CD, 0x9D7), points(0x9C7, 0x9CD, 0x9D7)}, {points(0x9C7, 0x9BE, 0x9CD), points(0x9CB, 0x9CD)},
		// nothing opens, nothing is put in order
		{points(0x212B), points(0x212B)}, {points(0xE0), points(0xE0)}, {points(0xE2, 0x300), points(0x1EA7)}, {points(0x344), points(0x344)}, {points(0x3B1, 0x344), points(0x3B1, 0x344)}, {points(0x61, 0x340), points(0x61, 0x340)}, {points(0x300, 0x323), points(0x300, 0x323)}, {points(0x915, 0x93C), points(0x915, 0x93C)},
		// Hangul
		{points(0x1100, 0x1161), points(0xAC00)}, {points(0x1100, 0x1161, 0x11A8), points(0xAC01)}, {points(0xAC00, 0x11A8), points(0xAC01)}, {points(0xAC01, 0x11A8), points(0xAC01, 0x11A8)}, {points(0x1112, 0x1175, 0x11C2), points(0xD7A3)}, {points(0x1100, 0x1161, 0x11A8, 0x11A8), points(0xAC01, 0x11A8)}, {points(0x1100, 0x1161, 0x1161), points(0xAC00, 0x1161)}, {points(0x1100, 0x11A8), points(0x1100, 0x11A8)}, {points(0x1161, 0x11A8), points(0x1161, 0x11A8)},
		{points(0x1100, 0x1100, 0x1161), points(0x1100, 0xAC00)}, {points(0xAC00, 0x11A7), points(0xAC00, 0x11A7)}, {points(0xAC00, 0x11C3), points(0xAC00, 0x11C3)}, {points(0x1113, 0x1161), points(0x1113, 0x1161)}, {points(0x1100, 0x1176), points(0x1100, 0x1176)}, {points(0x1100, 0x300, 0x1161), points(0x1100, 0x300, 0x1161)}, {points(0x1100, 0x1161, 0x323, 0x11A8), points(0xAC00, 0x323, 0x11A8)}, {points(0xAC00, 0x11A8, 0x300, 0x1100, 0x1161), points(0xAC01, 0x300, 0xAC00)}, {points(0xABFF, 0x11A8), points(0xABFF, 0x11A8)}, {points(0xD7A4, 0x11A8), points(0xD7A4, 0x11A8)},
		// what is no code point is a starter, and composes with nothing
		{points(-1, 0x300), points(-1, 0x300)}, {points(0x61, -1, 0x300), points(0x61, -1, 0x300)}, {points(-1, 0x61, 0x300, -1), points(-1, 0xE0, -1)}, {points(0x61, 0x110300, 0x300), points(0x61, 0x110300, 0x300)}, {points(0x110061, 0x300), points(0x110061, 0x300)}, {points(0x1100, 0x111161), points(0x1100, 0x111161)}, {points(-0x61, 0x300, 0x61, 0x300), points(-0x61, 0x300, 0xE0)},
	} {
		checkCompose(t, w, c.x, c.want)
	}
}

func TestComposeOfBonds(t *testing.T) {
	w := bondWorld(t)
	for _, c := range []struct{ x, want []rune }{
		// marks of one class, one after the other: which is first says to what they compose
		{points(0x61, 0x300, 0x301), points(0x1E00)}, {points(0x61, 0x301, 0x300), points(0x1E01)}, {points(0x61, 0x300, 0x300), points(0xE0, 0x300)}, {points(0x61, 0x302, 0x300), points(0x61, 0x302, 0x300)}, {points(0x61, 0x300, 0x302, 0x301), points(0xE0, 0x302, 0x301)}, {points(0xE0, 0x323, 0x301), points(0x1E00, 0x323)},
		{points(0x61, 0x323, 0x300), points(0x1E03)}, {points(0x61, 0x324, 0x323), points(0x61, 0x324, 0x323)}, {points(0x61, 0x324, 0x300, 0x301), points(0x1E00, 0x324)},
		// the least and the greatest class
		{points(0x62, 0x334), points(0x1E05)}, {points(0x62, 0x334, 0x358), points(0x1E05, 0x358)}, {points(0x62, 0x327, 0x334), points(0x62, 0x327, 0x334)}, {points(0x62, 0x345, 0x358), points(0x1E06, 0x345)}, {points(0x62, 0x334, 0x334), points(0x1E05, 0x334)}, {points(0x62, 0x358, 0x358), points(0x1E06, 0x358)},
		// starters
		{points(0x2000, 0x2001), points(0x2002)}, {points(0x2000, 0x2001, 0x2003), points(0x2007)}, {points(0x2000, 0x2001, 0x2003, 0x300), points(0x2008)}, {points(0x2000, 0x2001, 0x323, 0x2003), points(0x2002, 0x323, 0x2003)}, {points(0x2000, 0x2003), points(0x2000, 0x2003)}, {points(0x2000, 0x2001, 0x2004), points(0x2002, 0x2004)}, {points(0x2001, 0x2004), points(0x2005)}, {points(0x2000, 0x2005), points(0x2000, 0x2005)},
		{points(0x61, 0x300, 0x2003, 0x323), points(0x200E)}, {points(0x61, 0x300, 0x2003, 0x300, 0x323), points(0x200D, 0x300, 0x323)}, {points(0x61, 0x300, 0x302, 0x2003), points(0xE0, 0x302, 0x2003)},
		// a mark that one behind it has passed still stands between
		{points(0x61, 0x327, 0x300, 0x2003), points(0xE0, 0x327, 0x2003)}, {points(0x61, 0x327, 0x300, 0x301), points(0x1E00, 0x327)}, {points(0x61, 0x327, 0x323, 0x300, 0x2003), points(0x1E03, 0x327, 0x2003)},
		{points(0x2009), points(0x2009)}, {points(0x2009, 0x2009), points(0x200B)}, {points(0x2009, 0x2009, 0x2009), points(0x200C)}, {points(0x2009, 0x2009, 0x2009, 0x2009), points(0x200C, 0x2009)}, {many(7, 0x2009), points(0x200C, 0x200C, 0x2009)},
		// Hangul with what is none
		{points(0x1100, 0x1161, 0x300), points(0x2020)}, {points(0x1100, 0x1161, 0x300, 0x11A8), points(0x2020, 0x11A8)}, {points(0xAC00, 0x323, 0x300), points(0x2020, 0x323)}, {points(0x1100, 0x1161, 0x11A8, 0x11A8), points(0x2021)}, {points(0x61, 0x1161), points(0x2022)}, {points(0x1100, 0x323), points(0x2023)}, {points(0x1100, 0x323, 0x1161), points(0x2023, 0x1161)}, {points(0x11A8, 0x1161, 0x11A8), points(0x2024, 0x11A8)}, {points(0x1112, 0x1175, 0x11C2, 0x2003), points(0x2025)},
		// nothing composes to what does not compose again
		{points(0x1100, 0x1161), points(0xAC00)}, {points(0x2037, 0x2001), points(0x2037, 0x2001)}, {points(0x2031, 0x11A8), points(0x2031, 0x11A8)}, {points(0x2032, 0x301), points(0x2032, 0x301)},
		// a mark that opens is a mark, and a number that opens to a mark a starter
		{points(0x61, 0x2035, 0x300), points(0xE0, 0x2035)}, {points(0x61, 0x2036, 0x300), points(0x61, 0x2036, 0x300)}, {points(0x61, 0x2033, 0x300), points(0x61, 0x2033, 0x300)},
	} {
		checkCompose(t, w, c.x, c.want)
	}
	w = baseWorld(t)
	checkCompose(t, w, points(0x61, 0x300, 0x1100, 0x1161, 0x11A8, 0x300), points(0x61, 0x300, 0xAC01, 0x300))
}

func TestNFC(t *testing.T) {
	w := houseWorld(t)
	for _, c := range []struct{ x, want []rune }{
		{nil, nil}, {points(), nil}, {points(0x61), points(0x61)}, {points(0x300, 0x61), points(0x300, 0x61)},
		// opened, put in order, composed
		{points(0xE0, 0x323), points(0xE0, 0x323)}, {points(0x61, 0x300, 0x323), points(0xE0, 0x323)}, {points(0x1EA7, 0x323, 0x327), points(0x1EA7, 0x327, 0x323)}, {points(0xE2, 0x323, 0x300), points(0x1EA7, 0x323)}, {points(0xE0, 0x302), points(0xE0, 0x302)}, {points(0x300, 0x323), points(0x323, 0x300)}, {points(0x1E0B, 0x1E0D), points(0x1E0B, 0x1E0D)},
		// to two that do not compose again, and to one
		{points(0x344), points(0x308, 0x301)}, {points(0x958), points(0x915, 0x93C)}, {points(0xFB2E, 0x5B0), points(0x5D0, 0x5B0, 0x5B7)}, {points(0x212B), points(0xC5)}, {points(0x2126, 0x301), points(0x38F)}, {points(0x1F71), points(0x3AC)}, {points(0x1F71, 0x345), points(0x3AC, 0x345)}, {points(0x340), points(0x300)}, {points(0x61, 0x340), points(0xE0)}, {points(0x65, 0x323, 0x341), points(0xE9, 0x323)}, {points(0xF900), points(0x8C48)}, {points(0x61, 0x344), points(0xE4, 0x301)}, {points(0x62, 0x344, 0x323), points(0x62, 0x323, 0x308, 0x301)},
		{points(0x3B1, 0x301, 0x345), points(0x3AC, 0x345)}, {points(0x3B1, 0x345, 0x301), points(0x3AC, 0x345)}, {points(0x1FB3, 0x301), points(0x3AC, 0x345)}, {points(0x1FB3, 0x302), points(0x1FB3, 0x302)},
		{points(0x1100, 0x1161, 0x11A8), points(0xAC01)}, {points(0xAC01, 0xAC00, 0x11A8), points(0xAC01, 0xAC01)}, {points(0xAC00, 0x300, 0x323, 0x11A8), points(0xAC00, 0x323, 0x300, 0x11A8)}, {points(0x1100, 0xAC00), points(0x1100, 0xAC00)}, {points(0xAC00, 0x1161), points(0xAC00, 0x1161)},
		{points(0x110A5, 0x110B9, 0x110BA), points(0x110AB, 0x110B9)}, {points(0x304B, 0x94D, 0x3099), points(0x304C, 0x94D)}, {points(0x927, 0x93C, 0x928, 0x94D, 0x93C), points(0x927, 0x93C, 0x929, 0x94D)},
		{points(-5, 0x61, 0x300, 0x110000, 0x300, 0x323, -0xAC00, 0x11A8, 0x61, -1, 0x300), points(-5, 0xE0, 0x110000, 0x323, 0x300, -0xAC00, 0x11A8, 0x61, -1, 0x300)},
		// neither mapped nor made to look alike
		{points(0x41, 0x300), points(0xC0)}, {points(0xFB01, 0x430, 0x1E9E), points(0xFB01, 0x430, 0x1E9E)},
	} {
		checkNFC(t, w, c.x, c.want)
	}
	w = bondWorld(t)
	for _, c := range []struct{ x, want []rune }{
		{points(0x2030), points(0xE0)}, {points(0x2031), points(0xAC00)}, {points(0x2031, 0x11A8), points(0xAC01)}, {points(0x203A), points(0xAC01)}, {points(0x2032, 0x301), points(0x1E00)}, {points(0x61, 0x2033), points(0xE0)}, {points(0x2000, 0x2034), points(0x2002)}, {points(0x2000, 0x2034, 0x2003, 0x2036), points(0x2008)}, {points(0x61, 0x2039), points(0x1E03)},
		{points(0x62, 0x2035, 0x323), points(0x62, 0x1E02)}, {points(0x2037), points(0x2000, 0x2003)}, {points(0x2038), points(0x2000, 0x2003, 0x2001)},
		// what begins with one that composes with what is ahead falls apart
		{points(0x2000, 0x2005), points(0x2002, 0x2004)}, {points(0x2000, 0x2006), points(0x2002, 0x2004, 0x300)}, {points(0x2009, 0x200B), points(0x200C)}, {points(0x200B, 0x200B), points(0x200C, 0x2009)}, {points(0x2009, 0x200C), points(0x200C, 0x2009)}, {points(0x61, 0x2024), points(0x61, 0x2024)}, {points(0xAC00, 0x2024), points(0xAC01, 0x1161)},
		// a mark of a lesser class takes the place of the one that had composed
		{points(0xE0, 0x323), points(0x1E03)}, {points(0x1E00, 0x323), points(0x1E03, 0x301)}, {points(0x1E04, 0x300), points(0xE0, 0x345)}, {points(0x1E06, 0x334), points(0x1E05, 0x358)}, {points(0x2020, 0x323), points(0x2020, 0x323)}, {points(0x200D, 0x323), points(0x200E)}, {points(0x200D, 0x301), points(0x200D, 0x301)},
	} {
		checkNFC(t, w, c.x, c.want)
	}
}

// Every syllable of its two and of its three jamo, with another jamo behind; and each number of the house alone.
func TestEach(t *testing.T) {
	w := houseWorld(t)
	for l := range rune(19) {
		for v := range rune(21) {
			for tail := range rune(28) {
				c := 0xAC00 + (21*l+v)*28 + tail
				x := points(0x1100+l, 0x1161+v)
				if tail > 0 {
					x = append(x, 0x11A7+tail)
					checkCompose(t, w, points(c, 0x11A8), points(c, 0x11A8))
					checkNFC(t, w, points(c-tail, 0x11A7+tail), points(c))
				}
				checkCompose(t, w, x, points(c))
				checkNFC(t, w, x, points(c))
				checkNFC(t, w, points(c, 0x1161, c), points(c, 0x1161, c))
			}
		}
	}
	for _, w := range []*world{w, bondWorld(t)} {
		for c := rune(-10); c <= 0x110400; c++ {
			if c < 0x3100 || c >= 0xABF0 && c <= 0xD810 || c > 0xF8F0 && c < 0xFF00 || c > 0x110A0 && c < 0x110C0 || c >= 0x10FFF0 {
				checkNFC(t, w, points(c), w.normal(points(c)))
				checkQuick(t, w, points(c), w.quick(points(c)))
				checkSafe(t, w, c, w.safe(c))
				if t.Failed() {
					t.FailNow()
				}
			}
		}
	}
}

func TestQuick(t *testing.T) {
	w := houseWorld(t)
	for _, c := range []struct {
		x    []rune
		want int
	}{
		// Yes: nothing opens; what opens composes again; marks that compose with nothing
		{nil, api.Yes}, {points(), api.Yes}, {points(0x61), api.Yes}, {points(0x61, 0x62, 0x430, 0x1100), api.Yes}, {points(0xE0), api.Yes}, {points(0x1EA7), api.Yes}, {points(0xAC00), api.Yes}, {points(0xAC01), api.Yes}, {points(0xD7A3, 0xE0, 0x9CB, 0x110AB), api.Yes}, {points(0x33D), api.Yes}, {points(0x61, 0x334, 0x33D, 0x315), api.Yes}, {points(0xE0, 0x334, 0x33D, 0x62, 0x334), api.Yes}, {points(0x315, 0x61, 0x334), api.Yes},
		{points(-1), api.Yes}, {points(-1, 0x61, 0x110000, 0xE0, 0x33D, -0x300, 0x334), api.Yes}, {points(0x110300, 0x11AC01, -0x212B), api.Yes}, {points(0x1112, 0x1113, 0x1160, 0x1176, 0x11A7, 0x11C3), api.Yes},
		// Maybe: a mark, a starter, a jamo V, a jamo T that may compose with one ahead; whether it does is not asked
		{points(0x300), api.Maybe}, {points(0x61, 0x300), api.Maybe}, {points(0x62, 0x300), api.Maybe}, {points(0x9BE), api.Maybe}, {points(0x9D7), api.Maybe}, {points(0x9C7, 0x9BE), api.Maybe}, {points(0x9C7, 0x323, 0x9BE), api.Maybe}, {points(0x1161), api.Maybe}, {points(0x1175), api.Maybe}, {points(0x11A8), api.Maybe}, {points(0x11C2), api.Maybe}, {points(0xAC01, 0x11A8), api.Maybe}, {points(0x1100, 0x1161), api.Maybe}, {points(0x61, 0x323, 0x300), api.Maybe}, {points(0x300, 0x61), api.Maybe}, {points(0x300, 0x61, 0x62, 0x63), api.Maybe}, {points(0x61, 0x62, 0x63, 0x300), api.Maybe}, {points(0x300, 0xE0), api.Maybe}, {points(-1, 0x300, -1), api.Maybe}, {points(0x345), api.Maybe}, {points(0x3099), api.Maybe}, {points(0x300, 0x9BE), api.Maybe},
		// No: a number that opens to one, and to two that do not compose to it
		{points(0x212B), api.No}, {points(0x340), api.No}, {points(0x343), api.No}, {points(0x1F71), api.No}, {points(0xF900), api.No}, {points(0x2126), api.No}, {points(0x344), api.No}, {points(0x958), api.No}, {points(0xFB2E), api.No}, {points(0xFB2F), api.No}, {points(0x61, 0x62, 0x212B), api.No}, {points(0x212B, 0x61, 0x62), api.No}, {points(0x61, 0x958, 0x62), api.No},
		// No: not in order
		{points(0x300, 0x323), api.No}, {points(0x33D, 0x334), api.No}, {points(0x61, 0x33D, 0x334), api.No}, {points(0x33D, 0x334, 0x61), api.No}, {points(0x323, 0x327), api.No}, {points(0x61, 0x300, 0x323), api.No}, {points(0xE0, 0x315, 0x33D), api.No}, {points(0x61, 0x334, 0x33D, 0x62, 0x33D, 0x334), api.No}, {points(0x5B7, 0x5B0), api.No},
		// two reasons meet: the stronger one is told, whichever stands ahead
		{points(0x212B, 0x300), api.No}, {points(0x300, 0x212B), api.No}, {points(0x300, 0x61, 0x958), api.No}, {points(0x958, 0x1161), api.No}, {points(0x300, 0x61, 0x33D, 0x334), api.No}, {points(0x33D, 0x334, 0x61, 0x300), api.No}, {points(0x212B, 0x33D, 0x334), api.No}, {points(0x33D, 0x334, 0x212B), api.No}, {points(0x344, 0x334), api.No}, {points(0x1161, 0x344, 0x334), api.No}, {points(0x212B, 0x958), api.No}, {points(0x300, 0x323, 0x212B, 0x11A8), api.No},
		// what opens to a mark is No by its opening, though the mark may compose
		{points(0x340, 0x61), api.No}, {points(0x341), api.No},
	} {
		checkQuick(t, w, c.x, c.want)
	}
	w = bondWorld(t)
	for _, c := range []struct {
		x    []rune
		want int
	}{
		// it opens to the two of another number, or to the jamo of a syllable
		{points(0x2030), api.No}, {points(0x2031), api.No}, {points(0x2032), api.No}, {points(0x2033), api.No}, {points(0x2034), api.No}, {points(0x2035), api.No}, {points(0x2036), api.No}, {points(0x2037), api.No}, {points(0x2038), api.No}, {points(0x2039), api.No}, {points(0x203A), api.No},
		// the first of its full decomposition may compose with one ahead; it itself does not, nor what it opens to first
		{points(0x2005), api.Maybe}, {points(0x2006), api.Maybe}, {points(0x61, 0x2006, 0x61), api.Maybe}, {points(0x200B), api.Maybe}, {points(0x200C), api.Maybe}, {points(0x2024), api.Maybe}, {points(0x2000, 0x2005), api.Maybe}, {points(0x2006, 0x2030), api.No}, {points(0x2006, 0x300, 0x323), api.No},
		// the last of it may, that is no reason
		{points(0x2002), api.Yes}, {points(0x2007), api.Yes}, {points(0x2008), api.Yes}, {points(0x2020), api.Yes}, {points(0x2021), api.Yes}, {points(0x2022), api.Yes}, {points(0x2023), api.Yes}, {points(0x2025), api.Yes}, {points(0x1E00, 0x1E03, 0x200E), api.Yes}, {points(0xE0, 0x327, 0x302), api.Yes},
		{points(0x2001), api.Maybe}, {points(0x2003), api.Maybe}, {points(0x2004), api.Maybe}, {points(0x2000), api.Yes}, {points(0x327), api.Yes}, {points(0x324), api.Yes}, {points(0x2009), api.Maybe},
	} {
		checkQuick(t, w, c.x, c.want)
	}
	w = baseWorld(t)
	checkQuick(t, w, points(0xE0, 0x300, 0x323, 0x212B, 0x344, 0xAC01), api.Yes)
	checkQuick(t, w, points(0x1161), api.Maybe)
}

// Beside each of Quick's answers what Is tells: Maybe leaves it open.
func TestIs(t *testing.T) {
	w := houseWorld(t)
	for _, c := range []struct {
		x     []rune
		quick int
		want  bool
	}{
		{nil, api.Yes, true}, {points(0xE0), api.Yes, true}, {points(0xAC01, -1, 0x33D), api.Yes, true},
		{points(0x300), api.Maybe, true}, {points(0x62, 0x300), api.Maybe, true}, {points(0x9D7), api.Maybe, true}, {points(0x9C7, 0x323, 0x9BE), api.Maybe, true}, {points(0x1161), api.Maybe, true}, {points(0xAC01, 0x11A8), api.Maybe, true}, {points(0xE0, 0x323), api.Maybe, true}, {points(0x61, 0x33D, 0x300), api.Maybe, true}, {points(0x61, -1, 0x300), api.Maybe, true}, {points(0x1E0D, 0x307), api.Maybe, true}, {points(0x3AC, 0x345), api.Maybe, true},
		{points(0x61, 0x300), api.Maybe, false}, {points(0x61, 0x323, 0x300), api.Maybe, false}, {points(0x9C7, 0x9BE), api.Maybe, false}, {points(0x1100, 0x1161), api.Maybe, false}, {points(0xAC00, 0x11A8), api.Maybe, false}, {points(0xE2, 0x300), api.Maybe, false}, {points(0x1E0B, 0x323), api.Maybe, false}, {points(0x1FB3, 0x301), api.Maybe, false}, {points(0x300, 0x61, 0x300), api.Maybe, false},
		{points(0x212B), api.No, false}, {points(0x344), api.No, false}, {points(0x300, 0x323), api.No, false}, {points(0x33D, 0x334), api.No, false}, {points(0x61, 0x300, 0x323), api.No, false},
	} {
		checkIs(t, w, c.x, c.want)
		checkQuick(t, w, c.x, c.quick)
	}
	w = bondWorld(t)
	for _, c := range []struct {
		x    []rune
		want bool
	}{{points(0x2005), true}, {points(0x61, 0x2006), true}, {points(0x2000, 0x2005), false}, {points(0x2000, 0x2006), false}, {points(0x200C, 0x200C), true}, {points(0x200B, 0x200B), false}, {points(0x200C, 0x200B), true}, {points(0x61, 0x2024), true}, {points(0xAC00, 0x2024), false}} {
		checkIs(t, w, c.x, c.want)
		checkQuick(t, w, c.x, api.Maybe)
	}
}

func TestSafe(t *testing.T) {
	w := houseWorld(t)
	for _, c := range points(0x2E, 0x61, 0xE0, 0x1EA7, 0x9CB, 0x9C7, 0x1100, 0xAC00, 0xAC01, 0xD7A3, 0x1113, 0x430, 0x5D0, 0x200C, 0x31A, 0, 0x10FFFF, 0xD800, -1, -0x300, 0x110300) {
		checkSafe(t, w, c, true)
	}
	// it may compose with one ahead; it opens and does not compose again; it is a mark, though it composes with nothing
	for _, c := range points(0x300, 0x345, 0x3099, 0x9BE, 0x9D7, 0x1161, 0x1175, 0x11A8, 0x11C2, 0x212B, 0x958, 0xFB2E, 0xF900, 0x344, 0x340, 0x33D, 0x334, 0x315, 0x5B0, 0x94D) {
		checkSafe(t, w, c, false)
	}
	w = bondWorld(t)
	for _, c := range points(0x2000, 0x2002, 0x2007, 0x2008, 0x200D, 0x200E, 0x2020, 0x2023, 0x1E00, 0xAC00, 0x65) {
		checkSafe(t, w, c, true)
	}
	for _, c := range points(0x2001, 0x2003, 0x2005, 0x2006, 0x2009, 0x200B, 0x200C, 0x2024, 0x2030, 0x2031, 0x2033, 0x2035, 0x2037, 0x324, 0x327) {
		checkSafe(t, w, c, false)
	}
	checkSafe(t, baseWorld(t), 0x300, true)
	checkSafe(t, baseWorld(t), 0x1161, false)
}

// checkWords holds all calls against the chapter's words.
func checkWords(t *testing.T, w *world, x []rune) {
	t.Helper()
	checkCompose(t, w, x, w.composed(x))
	checkNFC(t, w, x, w.normal(x))
	checkQuick(t, w, x, w.quick(x))
}

// checkForms is 13.4, 13.5 and 13.7, by the calls and Data alone.
func checkForms(t *testing.T, w *world, x []rune) {
	t.Helper()
	c, n := told(t, norm.NFC, w.d, x), told(t, order.NFD, w.d, x)
	for _, f := range []struct {
		name string
		y    []rune
		want []rune
	}{{"NFC of NFC", told(t, norm.NFC, w.d, c), c}, {"NFD of NFC", told(t, order.NFD, w.d, c), n}, {"NFC of NFD", told(t, norm.NFC, w.d, n), c}, {"Compose of NFD", told(t, norm.Compose, w.d, n), c}} {
		if !slices.Equal(f.y, f.want) {
			t.Errorf("13.4: %s: %s of %X: %X, want %X", w.name, f.name, x, f.y, f.want)
		}
	}
	checkIs(t, w, c, true)
	if q, e := norm.Quick(w.d, x); e != api.OK || q == api.Yes && !slices.Equal(c, x) || q == api.No && slices.Equal(c, x) {
		t.Errorf("13.5: %s: Quick(%X): %d, %d, NFC %X", w.name, x, q, int(e), c)
	}
	if q, _ := norm.Quick(w.d, c); q == api.No {
		t.Errorf("13.5: %s: Quick of the NFC %X: No", w.name, c)
	}
	if len(c) > len(n) {
		t.Errorf("13.7: %s: NFC of %X: %X, longer than %X", w.name, x, c, n)
	}
	for i := 1; i < len(c); i++ {
		if _, ok := w.d.Compose(c[i-1], c[i]); ok && w.d.Class(c[i-1]) == 0 {
			t.Errorf("13.7: %s: NFC of %X: %X: %X and %X compose", w.name, x, c, c[i-1], c[i])
		}
	}
}

// checkAlike is the last of 13.4.
func checkAlike(t *testing.T, w *world, x, y []rune) bool {
	t.Helper()
	same, e := order.Same(w.d, x, y)
	if c := told(t, norm.NFC, w.d, x); e != api.OK || slices.Equal(c, told(t, norm.NFC, w.d, y)) != same {
		t.Errorf("13.4: %s: %X and %X: alike %v, their NFC %X, %X", w.name, x, y, same, c, told(t, norm.NFC, w.d, y))
	}
	return same
}

// checkSeam is 13.6.
func checkSeam(t *testing.T, w *world, x, y []rune) bool {
	t.Helper()
	if len(y) > 0 && !norm.Safe(w.d, y[0]) {
		return false
	}
	both := slices.Concat(told(t, norm.NFC, w.d, x), told(t, norm.NFC, w.d, y))
	if whole := told(t, norm.NFC, w.d, slices.Concat(x, y)); !slices.Equal(whole, both) {
		t.Errorf("13.6: %s: NFC of %X and %X: %X, both %X", w.name, x, y, whole, both)
	}
	return true
}

// shorts are alphabets whose short sequences are gone through, all of them.
func shorts(t *testing.T) []struct {
	w        *world
	alphabet []rune
	most     int
} {
	t.Helper()
	return []struct {
		w        *world
		alphabet []rune
		most     int
	}{
		{houseWorld(t), points(0x61, 0xE2, 0x300, 0x302, 0x323, 0x212B, -5), 5},
		{houseWorld(t), points(0x64, 0x307, 0x323, 0x1E0B, 0x1E0D, 0x344, 0x334), 5},
		{houseWorld(t), points(0x1100, 0x1161, 0x11A8, 0xAC00, 0xAC01, 0x300, 0x2E), 5},
		{houseWorld(t), points(0x9C7, 0x9BE, 0x9D7, 0x9CB, 0x9CD), 6},
		{bondWorld(t), points(0x61, 0x300, 0x301, 0x323, 0x345, 0x2030, 0x2035), 5},
		{bondWorld(t), points(0x2000, 0x2001, 0x2003, 0x2004, 0x2006, 0x300, 0x2038), 5},
		{bondWorld(t), points(0x61, 0x300, 0x327, 0x2003, 0x323, 0x200D), 5},
		{bondWorld(t), points(0x2009, 0x200B, 0x200C, 0x327), 6},
		{bondWorld(t), points(0x1100, 0x1161, 0x11A8, 0x300, 0x323, 0x61, 0x2024), 5},
		{bondWorld(t), points(0x62, 0x334, 0x358, 0x1E05, 0x1E06), 6},
		{baseWorld(t), points(0x61, 0x300, 0x1161, 0xAC00), 4},
	}
}

func TestShort(t *testing.T) {
	for _, c := range shorts(t) {
		eachSequence(c.alphabet, c.most, func(x []rune) {
			checkWords(t, c.w, x)
			checkForms(t, c.w, x)
		})
		if t.Failed() {
			t.FailNow()
		}
	}
}

// Among all short sequences those with one NFD are those with one NFC.
func TestAlikeOfAllShort(t *testing.T) {
	for _, c := range shorts(t) {
		toC, toD := map[string]string{}, map[string]string{}
		alike := 0
		eachSequence(c.alphabet, c.most-1, func(x []rune) {
			y, z := key(told(t, norm.NFC, c.w.d, x)), key(told(t, order.NFD, c.w.d, x))
			if old, ok := toC[z]; ok && old != y {
				t.Fatalf("13.4: %s: NFC of %X is not that of what is alike", c.w.name, x)
			} else if ok {
				alike++
			}
			if old, ok := toD[y]; ok && old != z {
				t.Fatalf("13.4: %s: NFC of %X is that of what is not alike", c.w.name, x)
			}
			toC[z], toD[y] = y, z
		})
		if c.w.name != "base" && alike < 20 {
			t.Errorf("%s: %X: %d alike", c.w.name, c.alphabet, alike)
		}
	}
}

// key is a text that no other sequence has.
func key(x []rune) string {
	var b []byte
	for _, c := range x {
		b = append(b, byte(c), byte(c>>8), byte(c>>16), byte(c>>24))
	}
	return string(b)
}

func TestAlike(t *testing.T) {
	w := houseWorld(t)
	for _, c := range []struct {
		x, y []rune
		want bool
	}{
		{nil, nil, true}, {nil, points(0x61), false}, {points(0xE0), points(0x61, 0x300), true}, {points(0x1EA7), points(0xE2, 0x300), true}, {points(0x1EA7), points(0xE0, 0x302), false}, {points(0x212B), points(0xC5), true}, {points(0x212B), points(0x41, 0x30A), true}, {points(0x212B), points(0xE5), false}, {points(0x344), points(0x308, 0x301), true}, {points(0x344), points(0x301, 0x308), false},
		{points(0x1E0B, 0x323), points(0x1E0D, 0x307), true}, {points(0x61, 0x300, 0x323), points(0x61, 0x323, 0x300), true}, {points(0x61, 0x300, 0x301), points(0x61, 0x301, 0x300), false}, {points(0x61, 0x300), points(0x300, 0x61), false}, {points(0x61, 0x300), points(0x61, 0x340), true},
		{points(0xAC01), points(0x1100, 0x1161, 0x11A8), true}, {points(0xAC00, 0x11A8), points(0xAC01), true}, {points(0xAC01, 0x11A8), points(0xAC01), false}, {points(0x9CB), points(0x9C7, 0x9BE), true}, {points(0x9C7, 0x323, 0x9BE), points(0x9CB, 0x323), false},
		{points(-1), points(-1), true}, {points(-1), points(-2), false}, {points(0x1100E0), points(0xE0), false}, {points(0x300, -1, 0x323), points(0x323, -1, 0x300), false}, {points(0x41), points(0x61), false},
	} {
		if checkAlike(t, w, c.x, c.y) != c.want || checkAlike(t, w, c.y, c.x) != c.want {
			t.Errorf("13.4: house: %X and %X: alike is %v", c.x, c.y, !c.want)
		}
	}
}

func TestPairs(t *testing.T) {
	for _, w := range []*world{houseWorld(t), bondWorld(t), baseWorld(t)} {
		all := w.alphabet()
		for _, a := range all {
			for _, b := range all {
				checkWords(t, w, points(a, b))
				checkForms(t, w, points(a, b))
				checkSeam(t, w, points(a), points(b))
			}
		}
	}
}

func TestDrawn(t *testing.T) {
	draw := rand.New(rand.NewPCG(13, 1))
	worlds := []*world{houseWorld(t), bondWorld(t), great(t)}
	for range 200 {
		worlds = append(worlds, drawnWorld(t, draw))
	}
	var quick [3]int
	composed, seams, alike, unlike := 0, 0, 0, 0
	count := func(n *int, ok bool) {
		if ok {
			*n++
		}
	}
	for _, w := range worlds {
		all := append(w.alphabet(), noPoints...)
		for range 60 {
			x, y := w.drawnOf(draw, all, 16), w.drawnOf(draw, all, 8)
			checkWords(t, w, x)
			checkForms(t, w, x)
			checkForms(t, w, slices.Concat(x, y))
			quick[w.quick(x)]++
			quick[w.quick(y)]++
			count(&composed, len(w.normal(x)) < len(w.decomposed(x)))
			count(&seams, checkSeam(t, w, x, y) && len(y) > 0)
			count(&seams, checkSeam(t, w, x, slices.Concat(points(all[draw.IntN(len(all))]), y)))
			count(&alike, checkAlike(t, w, x, w.alike(draw, x)))
			count(&alike, checkAlike(t, w, w.alike(draw, x), w.alike(draw, x)))
			count(&unlike, !checkAlike(t, w, x, turned(draw, x)))
			checkAlike(t, w, x, y)
		}
		if t.Failed() {
			t.FailNow()
		}
	}
	if min(quick[0], quick[1], quick[2], composed, seams, alike, unlike) < 1000 {
		t.Errorf("the draws are thin: %d, %d, %d, %d, %d", quick, composed, seams, alike, unlike)
	}
}

// turned is a sequence in which two neighbours are exchanged, whatever their classes.
func turned(draw *rand.Rand, x []rune) []rune {
	y := slices.Clone(x)
	if len(y) > 1 {
		i := 1 + draw.IntN(len(y)-1)
		y[i-1], y[i] = y[i], y[i-1]
	}
	return y
}

func TestSeams(t *testing.T) {
	w := houseWorld(t)
	for _, c := range []struct{ x, y, want []rune }{
		{nil, nil, nil}, {points(0x61, 0x300), nil, points(0xE0)}, {nil, points(0x61, 0x300), points(0xE0)},
		{points(0x61, 0x300), points(0x61, 0x323, 0x300), points(0xE0, 0xE0, 0x323)}, {points(0x300, 0x323), points(0xE2, 0x300), points(0x323, 0x300, 0x1EA7)}, {points(0x212B), points(-1, 0x300, 0x323), points(0xC5, -1, 0x323, 0x300)},
		{points(0x1100), points(0xAC00, 0x11A8), points(0x1100, 0xAC01)}, {points(0xAC00), points(0x1100, 0x1161, 0x11A8), points(0xAC00, 0xAC01)}, {points(0x9C7), points(0x9CB), points(0x9C7, 0x9CB)},
	} {
		checkNFC(t, w, slices.Concat(c.x, c.y), c.want)
		if !checkSeam(t, w, c.x, c.y) {
			t.Errorf("13.6: house: %X begins with what is not Safe", c.y)
		}
	}
	// what is not Safe may not be parted
	for _, c := range []struct{ x, y []rune }{{points(0x61), points(0x300)}, {points(0x9C7), points(0x9BE)}, {points(0x1100), points(0x1161)}, {points(0xAC00), points(0x11A8)}, {points(0x345), points(0x334)}, {points(0x345), points(0x344)}} {
		both := slices.Concat(told(t, norm.NFC, w.d, c.x), told(t, norm.NFC, w.d, c.y))
		if slices.Equal(told(t, norm.NFC, w.d, slices.Concat(c.x, c.y)), both) || norm.Safe(w.d, c.y[0]) {
			t.Errorf("13.6: house: %X and %X", c.x, c.y)
		}
	}
}

func TestSeamsOfAllShort(t *testing.T) {
	for _, c := range shorts(t) {
		var all [][]rune
		eachSequence(c.alphabet, 3, func(x []rune) { all = append(all, x) })
		seams := 0
		for _, x := range all {
			for _, y := range all {
				if checkSeam(t, c.w, x, y) {
					seams++
				}
			}
		}
		if seams < len(all) {
			t.Errorf("13.6: %s: %X: %d seams", c.w.name, c.alphabet, seams)
		}
	}
}

func TestASCII(t *testing.T) {
	draw := rand.New(rand.NewPCG(13, 2))
	worlds := []*world{houseWorld(t), bondWorld(t), baseWorld(t)}
	for range 30 {
		worlds = append(worlds, drawnWorld(t, draw))
	}
	for _, w := range worlds {
		all := w.alphabet()
		for c := rune(0); c < 0x80; c++ {
			checkSafe(t, w, c, true)
			checkQuick(t, w, points(c), api.Yes)
			checkNFC(t, w, points(c), points(c))
			for range 10 {
				x, y := w.drawnOf(draw, all, 8), w.drawnOf(draw, all, 8)
				checkSeam(t, w, x, slices.Concat(points(c), y))
			}
		}
	}
}

// NFC of a domain is the NFCs of its labels, a full stop between each two.
func TestDomains(t *testing.T) {
	draw := rand.New(rand.NewPCG(13, 3))
	for _, w := range []*world{houseWorld(t), bondWorld(t), drawnWorld(t, draw), drawnWorld(t, draw)} {
		from := slices.DeleteFunc(w.alphabet(), func(c rune) bool { return c == 0x2E })
		for range 400 {
			whole := w.drawnOf(draw, from, 8)
			labels := told(t, norm.NFC, w.d, whole)
			for range draw.IntN(5) {
				x := w.drawnOf(draw, from, 8)
				whole = slices.Concat(whole, points(0x2E), x)
				labels = slices.Concat(labels, points(0x2E), told(t, norm.NFC, w.d, x))
			}
			if y := told(t, norm.NFC, w.d, whole); !slices.Equal(y, labels) {
				t.Fatalf("13.6: %s: NFC of %X: %X, of its labels %X", w.name, whole, y, labels)
			}
		}
	}
}

func TestWhatIsHandedInStays(t *testing.T) {
	w := houseWorld(t)
	for _, x := range [][]rune{{0xE0, 0x300, 0x323, 0x1EA7, 0x327}, {0x61, 0x302, 0x300, 0x62}, {0x300, 0x323}, {0x61, 0x62}, {0x1100, 0x1161, 0x11A8}, {0xAC01}, {0x212B}, {-1, 0x300, 0x323, 0x110000}, {}} {
		room := slices.Concat(x, points(0x345, 0x300, 0x323, 0x334, 0x61, 0xE0))
		before := slices.Clone(room)
		part := room[:len(x)]
		for _, d := range []*ucd.Data{w.d, nil} {
			for _, c := range calls {
				c.f(d, part)
			}
			norm.Quick(d, part)
			norm.Is(d, part)
		}
		if !slices.Equal(room, before) {
			t.Errorf("13: what was handed in, %X, or its spare room, is changed: %X", before, room)
		}
	}
}

// overwrite writes over a list, its spare room too.
func overwrite(x []rune) {
	x = x[:cap(x)]
	for i := range x {
		x[i] = 0x7A
	}
}

func TestAnswersAreTheirCallers(t *testing.T) {
	w := houseWorld(t)
	behind := points(0x345, 0x300, 0x323)
	for _, x := range [][]rune{{0xE0, 0x300, 0x323, 0x1EA7, 0x327}, {0x61, 0x302, 0x300, 0x62}, {0x300, 0x323}, {0x61, 0x62}, {0x61}, {0x1100, 0x1161, 0x11A8}, {0xAC01}, {0x212B}, {-1, 0x300, 0x323, 0x110000}, {}} {
		for _, c := range calls {
			want := c.words(w, x)
			room := slices.Concat(x, behind)
			handed := room[:len(x)]
			y, z := told(t, c.f, w.d, handed), told(t, c.f, w.d, handed)
			overwrite(y)
			if !slices.Equal(room, slices.Concat(x, behind)) || !slices.Equal(z, want) {
				t.Errorf("%s: writing over an answer of %s(%X) changes what was handed in, or another answer: %X, %X", c.promise, c.name, x, room, z)
			}
			overwrite(room)
			if !slices.Equal(z, want) {
				t.Errorf("%s: writing over what was handed in changes the answer of %s(%X): %X", c.promise, c.name, x, z)
			}
			if again := told(t, c.f, w.d, x); !slices.Equal(again, want) {
				t.Errorf("%s: writing over an answer changes the next one of %s(%X): %X", c.promise, c.name, x, again)
			}
		}
	}
	// nothing of Data is handed out
	for c := rune(0); c < 0x3100; c++ {
		overwrite(told(t, norm.Compose, w.d, points(c)))
		overwrite(told(t, norm.NFC, w.d, points(c)))
	}
	for c := rune(0); c < 0x3100; c++ {
		checkNFC(t, w, points(c), w.normal(points(c)))
		checkQuick(t, w, points(c), w.quick(points(c)))
	}
}

// An answer hangs on nothing that was asked ahead of it, refused calls among them.
func TestCallsAreApart(t *testing.T) {
	draw := rand.New(rand.NewPCG(13, 4))
	w, other := houseWorld(t), bondWorld(t)
	all := w.alphabet()
	long := make([]rune, api.MaxPoints+1)
	for range 300 {
		x, y := w.drawnOf(draw, all, 30), w.drawnOf(draw, all, 30)
		checkWords(t, w, x)
		for _, c := range calls {
			c.f(w.d, y)
			c.f(other.d, x)
			c.f(nil, x)
			c.f(w.d, long)
		}
		norm.Quick(other.d, y)
		norm.Is(other.d, x)
		norm.Quick(w.d, long)
		checkWords(t, w, x)
	}
}
