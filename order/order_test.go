package order_test

import (
	"math/rand/v2"
	"slices"
	"testing"

	"endonym/api"
	"endonym/house"
	"endonym/order"
	"endonym/ucd"
)

func points(c ...rune) []rune { return c }

func many(n int, c ...rune) []rune { return slices.Repeat(c, n) }

// some is what of a sequence is worth showing.
func some(x []rune) []rune { return x[:min(len(x), 16)] }

type call func(d *ucd.Data, x []rune) ([]rune, api.Errno)

// calls are those that tell a sequence.
var calls = []struct {
	promise, name string
	f             call
	words         func(w *world, x []rune) []rune
}{
	{"12.1", "Open", order.Open, (*world).opened},
	{"12.2", "Sort", order.Sort, (*world).ordered},
	{"12.3", "NFD", order.NFD, (*world).normal},
}

func checkOpen(t *testing.T, w *world, x, want []rune) {
	t.Helper()
	if y, e := order.Open(w.d, x); !slices.Equal(y, want) || e != api.OK {
		t.Errorf("12.1: %s: Open of %d, %X: %d, %X, %d, want %X", w.name, len(x), some(x), len(y), some(y), int(e), some(want))
	}
}

// checkSort holds Sort to what is wanted, and Sorted to whether that is x.
func checkSort(t *testing.T, w *world, x, want []rune) {
	t.Helper()
	if y, e := order.Sort(w.d, x); !slices.Equal(y, want) || e != api.OK {
		t.Errorf("12.2: %s: Sort of %d, %X: %d, %X, %d, want %X", w.name, len(x), some(x), len(y), some(y), int(e), some(want))
	}
	checkSorted(t, w, x, slices.Equal(x, want))
}

func checkSorted(t *testing.T, w *world, x []rune, want bool) {
	t.Helper()
	if ok := order.Sorted(w.d, x); ok != want {
		t.Errorf("12.2: %s: Sorted of %d, %X: %v", w.name, len(x), some(x), ok)
	}
}

func checkNFD(t *testing.T, w *world, x, want []rune) {
	t.Helper()
	if y, e := order.NFD(w.d, x); !slices.Equal(y, want) || e != api.OK {
		t.Errorf("12.3: %s: NFD of %d, %X: %d, %X, %d, want %X", w.name, len(x), some(x), len(y), some(y), int(e), some(want))
	}
}

// checkSame asks both ways round.
func checkSame(t *testing.T, w *world, x, y []rune, want bool) {
	t.Helper()
	for range 2 {
		if ok, e := order.Same(w.d, x, y); ok != want || e != api.OK {
			t.Errorf("12.3: %s: Same of %d, %X, and %d, %X: %v, %d", w.name, len(x), some(x), len(y), some(y), ok, int(e))
		}
		x, y = y, x
	}
}

// told is a sequence that a call must take.
func told(t *testing.T, f call, d *ucd.Data, x []rune) []rune {
	t.Helper()
	y, e := f(d, x)
	if e != api.OK {
		t.Fatalf("12: of %d, %X: %v", len(x), some(x), e)
	}
	return y
}

func TestExamples(t *testing.T) {
	w := houseWorld(t)
	w.d = house.Data()
	checkNFD(t, w, points(0x1EA7), points(0x61, 0x302, 0x300))
	checkNFD(t, w, points(0xE0, 0x323), points(0x61, 0x323, 0x300))
	checkSort(t, w, points(0xE0, 0x300, 0x323), points(0xE0, 0x323, 0x300))
	checkNFD(t, w, points(0xAC01, 0x30), points(0x1100, 0x1161, 0x11A8, 0x30))
	checkNFD(t, w, points(-5), points(-5))
	checkSame(t, w, points(0xE0), points(0x61, 0x300), true)
	checkSame(t, w, points(0x61, 0x300, 0x323), points(0x61, 0x323, 0x300), true)
	checkSame(t, w, points(0x61, 0x300, 0x301), points(0x61, 0x301, 0x300), false)
}

func TestWithoutData(t *testing.T) {
	long := many(api.MaxPoints+1, 0x61)
	for _, x := range [][]rune{nil, {}, {0x61}, {0x61, 0x300, 0x323}, many(api.MaxPoints, 0x61), long} {
		for _, c := range calls {
			if y, e := c.f(nil, x); len(y) > 0 || e != api.ErrArg {
				t.Errorf("%s: %s of %d without Data: %X, %d", c.promise, c.name, len(x), some(y), int(e))
			}
		}
		if order.Sorted(nil, x) {
			t.Errorf("12.2: Sorted of %d without Data", len(x))
		}
		for _, y := range [][]rune{nil, {0x61}, long} {
			if ok, e := order.Same(nil, x, y); ok || e != api.ErrArg {
				t.Errorf("12.3: Same of %d and %d without Data: %v, %d", len(x), len(y), ok, int(e))
			}
		}
	}
}

func TestLong(t *testing.T) {
	for _, w := range []*world{houseWorld(t), baseWorld(t)} {
		for _, unit := range []rune{0x61, 0x300, 0xE0, 0xAC01, -1} {
			most, long := many(api.MaxPoints, unit), many(api.MaxPoints+1, unit)
			for _, c := range calls {
				if y, e := c.f(w.d, long); len(y) > 0 || e != api.ErrLong {
					t.Errorf("%s: %s: %s of %d: %X, %d", c.promise, w.name, c.name, len(long), some(y), int(e))
				}
				if y, e := c.f(w.d, most); !slices.Equal(y, c.words(w, most)) || e != api.OK {
					t.Errorf("%s: %s: %s of %d: %d, %X, %d", c.promise, w.name, c.name, len(most), len(y), some(y), int(e))
				}
			}
			checkSame(t, w, most, most, true)
			checkSame(t, w, most, most[1:], false)
			checkSame(t, w, most, nil, false)
			for _, pair := range [][2][]rune{{long, long}, {long, nil}, {nil, long}, {long, most}, {most, long}} {
				if ok, e := order.Same(w.d, pair[0], pair[1]); ok || e != api.ErrLong {
					t.Errorf("12.3: %s: Same of %d and %d: %v, %d", w.name, len(pair[0]), len(pair[1]), ok, int(e))
				}
			}
			if y, e := order.Open(w.d, make([]rune, 3*api.MaxPoints)); len(y) > 0 || e != api.ErrLong {
				t.Errorf("12.1: %s: Open of three times too many: %X, %d", w.name, some(y), int(e))
			}
		}
	}
}

// Of Sorted no length is refused: what NFD tells may have more numbers than a call takes.
func TestSortedOfLong(t *testing.T) {
	w := houseWorld(t)
	for _, n := range []int{api.MaxPoints - 1, api.MaxPoints, api.MaxPoints + 1, 3 * api.MaxPoints} {
		checkSorted(t, w, many(n, 0x61), true)
		checkSorted(t, w, many(n, 0x300), true)
		checkSorted(t, w, append(many(n-2, 0x61), 0x300, 0x323), false)
		checkSorted(t, w, append(points(0x300, 0x323), many(n-2, 0x61)...), false)
		checkSorted(t, w, append(many(n-2, 0x300), 0x61, 0x323), true)
	}
}

func TestOpen(t *testing.T) {
	w := houseWorld(t)
	for _, c := range []struct{ x, want []rune }{
		{nil, nil}, {points(), nil}, {points(0x61), points(0x61)}, {points(0xE0), points(0x61, 0x300)},
		{points(0xE0, 0xE0), points(0x61, 0x300, 0x61, 0x300)},
		{points(0x1EA7, 0x62, 0x1EA6), points(0x61, 0x302, 0x300, 0x62, 0x41, 0x302, 0x300)},
		{points(0x212B, 0x344, 0x1F71), points(0x41, 0x30A, 0x308, 0x301, 0x3B1, 0x301)},
		// nothing is put in order
		{points(0xE0, 0x323), points(0x61, 0x300, 0x323)}, {points(0x300, 0x323, 0x61), points(0x300, 0x323, 0x61)}, {points(0x345, 0x344, 0x334), points(0x345, 0x308, 0x301, 0x334)},
		// nor composed
		{points(0x61, 0x300), points(0x61, 0x300)}, {points(0x1100, 0x1161), points(0x1100, 0x1161)},
		{points(0xAC00), points(0x1100, 0x1161)}, {points(0xAC01, 0x30), points(0x1100, 0x1161, 0x11A8, 0x30)}, {points(0xD7A3), points(0x1112, 0x1175, 0x11C2)}, {points(0xAC1B, 0xAC1C), points(0x1100, 0x1161, 0x11C2, 0x1100, 0x1162)},
		{points(0xABFF, 0xD7A4), points(0xABFF, 0xD7A4)},
		{points(-5, 0xE0, 0x110000, 0xAC00, -0xE0), points(-5, 0x61, 0x300, 0x110000, 0x1100, 0x1161, -0xE0)},
	} {
		checkOpen(t, w, c.x, c.want)
	}
	w = rankWorld(t)
	for _, c := range []struct{ x, want []rune }{
		{points(0x310, 0x311), points(0x301, 0x305, 0x300, 0x302)}, {points(0x314, 0x313), points(0x305, 0x61, 0x305, 0x61)}, {points(0x318, 0x317, 0x316, 0x315), points(0x61, 0x305, 0x305, 0x61, 0x62, 0x300, 0x61, 0x301)},
		{points(0xE0, 0xAC1C), points(0xE0, 0x1100, 0x1162)},
	} {
		checkOpen(t, w, c.x, c.want)
	}
	checkOpen(t, baseWorld(t), points(0xE0, 0x300, 0xAC01), points(0xE0, 0x300, 0x1100, 0x1161, 0x11A8))
}

// Every syllable, and every number of the house that opens, alone and amid others.
func TestOpenOfEach(t *testing.T) {
	w := houseWorld(t)
	for c := rune(0); c <= 0x11FFFF; c++ {
		if c < 0x3000 || c >= 0xABF0 && c <= 0xE000 || c > 0xF8F0 && c < 0xFF00 || c > 0x1E8F0 && c < 0x1E950 || c > 0x110A0 && c < 0x110C0 || c >= 0x10FFFE && c < 0x110400 {
			full := w.full(c)
			checkOpen(t, w, points(c), full)
			checkNFD(t, w, points(c), full)
			checkOpen(t, w, points(0x61, c, c), slices.Concat(points(0x61), full, full))
		}
	}
}

func TestSort(t *testing.T) {
	w := houseWorld(t)
	for _, c := range []struct{ x, want []rune }{
		{nil, nil}, {points(), nil}, {points(0x61), points(0x61)}, {points(0x300), points(0x300)}, {points(0x62, 0x61), points(0x62, 0x61)},
		// nothing opens
		{points(0xE0, 0xAC01, 0x212B), points(0xE0, 0xAC01, 0x212B)}, {points(0x344, 0x323), points(0x323, 0x344)}, {points(0x340, 0x341, 0x300), points(0x340, 0x341, 0x300)},
		// at the beginning, in the middle, at the end
		{points(0x300, 0x323, 0x61, 0x62), points(0x323, 0x300, 0x61, 0x62)}, {points(0x61, 0x300, 0x323, 0x62), points(0x61, 0x323, 0x300, 0x62)}, {points(0x61, 0x62, 0x300, 0x323), points(0x61, 0x62, 0x323, 0x300)},
		{points(0x300, 0x323), points(0x323, 0x300)},
		{points(0x300, 0x323, 0x61, 0x301, 0x324, 0x62, 0x302, 0x327), points(0x323, 0x300, 0x61, 0x324, 0x301, 0x62, 0x327, 0x302)},
		// of one class
		{points(0x301, 0x300), points(0x301, 0x300)}, {points(0x302, 0x300, 0x301), points(0x302, 0x300, 0x301)}, {points(0x300, 0x300), points(0x300, 0x300)}, {points(0x314, 0x300, 0x340, 0x301), points(0x314, 0x300, 0x340, 0x301)},
		// of several
		{points(0x345, 0x315, 0x300, 0x323, 0x31B, 0x327, 0x334), points(0x334, 0x327, 0x31B, 0x323, 0x300, 0x315, 0x345)},
		{points(0x334, 0x327, 0x31B, 0x323, 0x300, 0x315, 0x345), points(0x334, 0x327, 0x31B, 0x323, 0x300, 0x315, 0x345)},
		{points(0x301, 0x323, 0x300, 0x316, 0x302, 0x324), points(0x323, 0x316, 0x324, 0x301, 0x300, 0x302)},
		{points(0x323, 0x301, 0x323), points(0x323, 0x323, 0x301)}, {points(0x301, 0x323, 0x301, 0x323), points(0x323, 0x323, 0x301, 0x301)},
		// a number of class 0 between two rows
		{points(0x300, 0x61, 0x323), points(0x300, 0x61, 0x323)}, {points(0x300, 0x323, 0x61, 0x301, 0x316), points(0x323, 0x300, 0x61, 0x316, 0x301)}, {points(0x345, 0x300, 0, 0x323, 0x334), points(0x300, 0x345, 0, 0x334, 0x323)}, {points(0x345, 0x61, 0x334, 0x62, 0x300), points(0x345, 0x61, 0x334, 0x62, 0x300)},
		// so does what is no code point, and a mark without a class
		{points(0x300, -1, 0x323), points(0x300, -1, 0x323)}, {points(0x300, 0x323, 0x110323, 0x301, 0x316), points(0x323, 0x300, 0x110323, 0x316, 0x301)}, {points(0x300, -0x300, 0x323), points(0x300, -0x300, 0x323)}, {points(0x300, 0x31A, 0x323), points(0x300, 0x31A, 0x323)},
		// a row of one behind a longer one, and the other way round
		{points(0x300, 0x323, 0x334, 0x61, 0x301), points(0x334, 0x323, 0x300, 0x61, 0x301)}, {points(0x301, 0x61, 0x300, 0x323, 0x334), points(0x301, 0x61, 0x334, 0x323, 0x300)},
	} {
		checkSort(t, w, c.x, c.want)
	}
	w = rankWorld(t)
	checkSort(t, w, points(0x305, 0x304, 0x308, 0x303, 0x302, 0x307, 0x301, 0x300, 0x306), points(0x300, 0x301, 0x302, 0x303, 0x308, 0x307, 0x306, 0x304, 0x305))
	checkSort(t, w, points(0x305, 0x311, 0x313, 0x317, 0x310, 0x305, 0x300), points(0x313, 0x311, 0x317, 0x305, 0x310, 0x300, 0x305))
	checkSort(t, w, points(0x10FFFF, 0xD801, 0xD800, 0xD802, 0x10FFFF, 0xD7FF), points(0xD801, 0xD800, 0x10FFFF, 0xD802, 0x10FFFF, 0xD7FF))
	checkSort(t, baseWorld(t), points(0x300, 0x323, 0x61, 0x301, 0x316), points(0x300, 0x323, 0x61, 0x301, 0x316))
}

func TestSorted(t *testing.T) {
	w := houseWorld(t)
	for _, c := range []struct {
		x    []rune
		want bool
	}{
		{nil, true}, {points(), true}, {points(0x61), true}, {points(0x300), true}, {points(-1), true},
		// the second has class 0
		{points(0x300, 0x61), true}, {points(0x345, 0x61, 0x334), true}, {points(0x300, -1), true}, {points(0x300, 0x110000, 0x323), true}, {points(0x300, 0x323, 0x61), false},
		// the first has
		{points(0x61, 0x300), true}, {points(-1, 0x323), true},
		// of one class, and of unlike ones
		{points(0x300, 0x300), true}, {points(0x301, 0x300), true}, {points(0x323, 0x300), true}, {points(0x300, 0x323), false}, {points(0x315, 0x300), false}, {points(0x345, 0x315), false}, {points(0x323, 0x327), false},
		// at the beginning, in the middle, at the end
		{points(0x300, 0x323, 0x61, 0x323, 0x300), false}, {points(0x323, 0x61, 0x300, 0x323, 0x62, 0x300), false}, {points(0x61, 0x323, 0x300, 0x62, 0x300, 0x323), false}, {points(0x61, 0x323, 0x300, 0x62, 0x323, 0x300), true},
		// it rises again behind
		{points(0x323, 0x334, 0x345), false}, {points(0x334, 0x300, 0x323, 0x345), false},
		// nothing is opened: C0 has class 0, though a mark stands at its end; 344 has its own class
		{points(0xC0, 0x323), true}, {points(0xC0, 0xC0), true}, {points(0x344, 0x323), false},
	} {
		checkSorted(t, w, c.x, c.want)
	}
	w = rankWorld(t)
	for i, a := range w.alphabet() {
		for j, b := range w.alphabet() {
			checkSorted(t, w, points(a, b), !(w.class(a) > w.class(b) && w.class(b) != 0))
			if i > j && w.class(a) != 0 && w.class(b) != 0 {
				checkSorted(t, w, points(a, 0x61, b), true)
			}
		}
	}
}

func TestNFD(t *testing.T) {
	w := houseWorld(t)
	for _, c := range []struct{ x, want []rune }{
		{nil, nil}, {points(), nil}, {points(0x61), points(0x61)},
		{points(0x61, 0x300, 0x301, 0x323), points(0x61, 0x323, 0x300, 0x301)},
		// what opens to marks, or ends in one, falls in with the row
		{points(0x1EA7, 0x323, 0x327), points(0x61, 0x327, 0x323, 0x302, 0x300)}, {points(0x344, 0x323), points(0x323, 0x308, 0x301)}, {points(0x1E0D, 0x307), points(0x64, 0x323, 0x307)}, {points(0x1E0B, 0x323), points(0x64, 0x323, 0x307)}, {points(0x1E0B, 0x1E0D), points(0x64, 0x307, 0x64, 0x323)},
		{points(0xE7, 0x323, 0x334), points(0x63, 0x334, 0x327, 0x323)}, {points(0xFB2E, 0x5B0), points(0x5D0, 0x5B0, 0x5B7)}, {points(0x958, 0x94D), points(0x915, 0x93C, 0x94D)}, {points(0x929, 0x334), points(0x928, 0x334, 0x93C)},
		{points(0x345, 0x344, 0x340, 0x334), points(0x334, 0x308, 0x301, 0x300, 0x345)},
		{points(0xAC00, 0x300, 0x323, 0x11A8), points(0x1100, 0x1161, 0x323, 0x300, 0x11A8)}, {points(0x300, 0x323, 0xD7A3), points(0x323, 0x300, 0x1112, 0x1175, 0x11C2)}, {points(0xAC01, 0xAC02), points(0x1100, 0x1161, 0x11A8, 0x1100, 0x1161, 0x11A9)},
		{points(-5, 0xE0, 0x110000, 0x300, 0x323, -0xAC00, 0x300), points(-5, 0x61, 0x300, 0x110000, 0x323, 0x300, -0xAC00, 0x300)},
	} {
		checkNFD(t, w, c.x, c.want)
	}
	w = rankWorld(t)
	for _, c := range []struct{ x, want []rune }{
		// a starter that opens to marks, a mark that opens to a starter
		{points(0x305, 0x310, 0x300), points(0x300, 0x301, 0x305, 0x305)}, {points(0x305, 0x317, 0x300), points(0x305, 0x62, 0x300)}, {points(0x313, 0x300), points(0x305, 0x61, 0x300)}, {points(0x306, 0x314, 0x301), points(0x306, 0x305, 0x61, 0x301)}, {points(0x305, 0x318, 0x301), points(0x305, 0x61, 0x305, 0x305, 0x61, 0x301)},
		{points(0x312, 0x311, 0x315, 0x316), points(0x61, 0x300, 0x302, 0x305, 0x61, 0x300, 0x301)},
	} {
		checkNFD(t, w, c.x, c.want)
	}
}

func TestSame(t *testing.T) {
	w := houseWorld(t)
	for _, c := range []struct {
		x, y []rune
		want bool
	}{
		{nil, nil, true}, {nil, points(), true}, {points(0x61), nil, false}, {points(0x61), points(0x61), true}, {points(0x61), points(0x62), false}, {points(0x61), points(0x61, 0x61), false},
		{points(0x212B), points(0xC5), true}, {points(0x212B), points(0x41, 0x30A), true}, {points(0x1EA7), points(0xE2, 0x300), true}, {points(0x1EA7), points(0xE0, 0x302), false}, {points(0x1EA7, 0x323), points(0x61, 0x302, 0x323, 0x300), true},
		{points(0x1E0D, 0x307), points(0x1E0B, 0x323), true}, {points(0x1E0D, 0x307), points(0x64, 0x307, 0x323), true}, {points(0x344), points(0x308, 0x341), true}, {points(0x344), points(0x301, 0x308), false},
		{points(0xAC01), points(0x1100, 0x1161, 0x11A8), true}, {points(0xAC01), points(0xAC00, 0x11A8), true}, {points(0xAC01), points(0xAC02), false}, {points(0xAC01), points(0xAC00), false},
		{points(0x300, 0x61), points(0x61, 0x300), false}, {points(0x61, 0x300, 0x62, 0x323), points(0x61, 0x323, 0x62, 0x300), false}, {points(0x300, -1, 0x323), points(0x323, -1, 0x300), false},
		{points(-1), points(-1), true}, {points(-1), points(-2), false}, {points(0x110000), points(-1), false}, {points(0x1100E0), points(0x61, 0x300), false},
		// what is mapped alike, or looks alike, is not alike here
		{points(0x41), points(0x61), false}, {points(0x430), points(0x61), false},
		{points(0x61, 0x300, 0x301), points(0xE0, 0x301), true}, {points(0x61, 0x300), points(0x61, 0x300, 0x300), false},
	} {
		checkSame(t, w, c.x, c.y, c.want)
	}
	checkSame(t, baseWorld(t), points(0xE0), points(0x61, 0x300), false)
	checkSame(t, baseWorld(t), points(0x300, 0x323), points(0x323, 0x300), false)
	checkSame(t, baseWorld(t), points(0xAC01), points(0x1100, 0x1161, 0x11A8), true)
}

// checkWords holds all calls against the chapter's words.
func checkWords(t *testing.T, w *world, x []rune) {
	t.Helper()
	checkOpen(t, w, x, w.opened(x))
	checkSort(t, w, x, w.ordered(x))
	checkNFD(t, w, x, w.normal(x))
}

// checkKept is 12.4, without what the records say of an order: by Data alone.
func checkKept(t *testing.T, w *world, x []rune) {
	t.Helper()
	y := told(t, order.NFD, w.d, x)
	if slices.ContainsFunc(y, func(c rune) bool { return len(w.d.Open(c)) > 0 }) || !order.Sorted(w.d, y) {
		t.Errorf("12.4: %s: NFD(%X): %X: opens, or is not Sorted", w.name, x, y)
	}
	checkNFD(t, w, y, y)
	checkOpen(t, w, y, y)
	s := told(t, order.Sort, w.d, x)
	if !order.Sorted(w.d, s) {
		t.Errorf("12.4: %s: Sort(%X): %X: not Sorted", w.name, x, s)
	}
	checkSort(t, w, s, s)
	if order.Sorted(w.d, x) && !slices.Equal(s, x) {
		t.Errorf("12.4: %s: Sort(%X), which is Sorted: %X", w.name, x, s)
	}
	for i := range x {
		if a, b := w.d.Class(x[i]), w.d.Class(s[i]); (a == 0 || b == 0) && x[i] != s[i] {
			t.Errorf("12.4: %s: Sort(%X): %X: %X moves", w.name, x, s, x[i])
		}
	}
	for _, c := range x {
		alike := func(m rune) bool { return w.d.Class(m) != w.d.Class(c) }
		if a, b := slices.DeleteFunc(slices.Clone(x), alike), slices.DeleteFunc(slices.Clone(s), alike); !slices.Equal(a, b) {
			t.Errorf("12.4: %s: Sort(%X): %X: those of the class of %X", w.name, x, s, c)
		}
	}
	if !slices.Equal(s, w.swapped(x)) {
		t.Errorf("12.4: %s: Sort(%X): %X, by exchanges %X", w.name, x, s, w.swapped(x))
	}
}

// checkSeam is 12.5.
func checkSeam(t *testing.T, w *world, x, y []rune) {
	t.Helper()
	both := slices.Concat(told(t, order.NFD, w.d, x), told(t, order.NFD, w.d, y))
	whole := told(t, order.NFD, w.d, slices.Concat(x, y))
	if s := told(t, order.Sort, w.d, both); !slices.Equal(whole, s) {
		t.Errorf("12.5: %s: NFD of %X and %X: %X, the Sort of both %X", w.name, x, y, whole, s)
	}
	apart := len(y) == 0 || w.class(w.full(y[0])[0]) == 0
	if apart && !slices.Equal(whole, both) {
		t.Errorf("12.5: %s: NFD of %X and %X: %X, both %X", w.name, x, y, whole, both)
	}
}

func TestShortByWords(t *testing.T) {
	for _, c := range []struct {
		w        *world
		alphabet []rune
		most     int
	}{
		{houseWorld(t), points(0x61, 0xE0, 0x300, 0x323, 0x344, 0xAC01, -5), 5},
		{houseWorld(t), points(0x61, 0x1EA7, 0x301, 0x302, 0x324, 0x334, 0x345), 5},
		{rankWorld(t), points(0x61, 0x300, 0x305, 0x306, 0x307, 0x310, 0x313), 5},
		{rankWorld(t), points(0x301, 0x302, 0x303, 0x304, 0x305), 6},
		{rankWorld(t), points(0x305, 0x306, 0x307), 8},
		{baseWorld(t), points(0x61, 0x300, 0x323, 0xAC01), 4},
	} {
		eachSequence(c.alphabet, c.most, func(x []rune) {
			checkWords(t, c.w, x)
			checkKept(t, c.w, x)
		})
		if t.Failed() {
			t.FailNow()
		}
	}
}

func TestPairsByWords(t *testing.T) {
	for _, w := range []*world{houseWorld(t), rankWorld(t), baseWorld(t)} {
		all := w.alphabet()
		for _, a := range all {
			for _, b := range all {
				checkWords(t, w, points(a, b))
				checkSeam(t, w, points(a), points(b))
			}
		}
	}
}

func TestDrawnByWords(t *testing.T) {
	draw := rand.New(rand.NewPCG(12, 1))
	worlds := []*world{houseWorld(t), rankWorld(t)}
	for range 150 {
		worlds = append(worlds, drawnWorld(t, draw))
	}
	for _, w := range worlds {
		all := append(w.alphabet(), noPoints...)
		for range 60 {
			x, y := w.drawnOf(draw, all, 24), w.drawnOf(draw, all, 12)
			checkWords(t, w, x)
			checkKept(t, w, x)
			checkSeam(t, w, x, y)
			checkSame(t, w, x, y, slices.Equal(w.normal(x), w.normal(y)))
			checkSame(t, w, x, w.opened(x), true)
			checkSame(t, w, x, w.normal(x), true)
			checkSame(t, w, x, w.swapped(x), slices.Equal(w.normal(x), w.normal(w.swapped(x))))
		}
		if t.Failed() {
			t.FailNow()
		}
	}
}

// Rows that are longer than any buffer begins with, one after the other, the longer ahead and the shorter ahead.
func TestLongRows(t *testing.T) {
	draw := rand.New(rand.NewPCG(12, 2))
	w := rankWorld(t)
	marks := points(0x300, 0x301, 0x302, 0x303, 0x304, 0x305, 0x306, 0x307, 0x308)
	for _, lengths := range [][]int{{1, 2, 3, 300, 3, 2, 1, 0, 2}, {5000, 2, 1, 5000, 1}, {2, 20000, 2, 20000, 2}} {
		var x []rune
		for _, n := range lengths {
			for range n {
				x = append(x, marks[draw.IntN(len(marks))])
			}
			x = append(x, 0x61)
		}
		checkWords(t, w, x)
		checkWords(t, w, x[:len(x)-1])
	}
	// as many rows as may be, all of which fall, and one row alone of as many marks as may be
	x := many(api.MaxPoints, 0x305, 0x300, 0x61)[:api.MaxPoints]
	checkSort(t, w, x, w.ordered(x))
	x = many(api.MaxPoints, 0x305, 0x307, 0x300, 0x306)[:api.MaxPoints]
	checkSort(t, w, x, w.ordered(x))
}

// great is a table in which 2000 opens to 32 marks of one class, and 2100 to 32 of unlike ones, which rise.
func great(t *testing.T) *world {
	t.Helper()
	l := rankWorld(t).l
	pair := func(c, a, b rune) {
		l = append(l, api.Record{Kind: api.KOpens, Lo: int(c), Hi: int(c), To: points(a, b)})
	}
	for step := range rune(5) {
		to := 0x2001 + step
		if step == 4 {
			to = 0x306
		}
		pair(0x2000+step, to, to)
	}
	// a heap: 2100 opens to 2101 and 2102, these to 2103 and 2104, 2105 and 2106, down to 211F to 213E
	for at := range rune(31) {
		pair(0x2100+at, 0x2101+2*at, 0x2102+2*at)
	}
	for at := range 32 {
		l = append(l, api.Record{Kind: api.KClass, Lo: 0x211F + at, Hi: 0x211F + at, N: 3 + at})
	}
	return worldOf(t, "great", l)
}

// As much as one call can open to: 32 times MaxPoints.
func TestOpenToMost(t *testing.T) {
	w := great(t)
	var rising, parted []rune
	for at := range rune(32) {
		rising = append(rising, 0x211F+at)
		parted = append(parted, many(api.MaxPoints, 0x211F+at)...)
	}
	x := many(api.MaxPoints, 0x2100)
	checkOpen(t, w, points(0x2100), rising)
	checkOpen(t, w, x, many(api.MaxPoints, rising...))
	checkNFD(t, w, x, parted)
	checkSorted(t, w, parted, true)
	checkSorted(t, w, many(api.MaxPoints, rising...), false)
	checkSame(t, w, x, slices.Concat(points(0x61), x[1:]), false)

	x = many(api.MaxPoints, 0x2000)
	checkOpen(t, w, x, many(32*api.MaxPoints, 0x306))
	checkNFD(t, w, x, many(32*api.MaxPoints, 0x306))
	// a mark of the least class comes from the end to the front, over all of them
	x[api.MaxPoints-1] = 0x300
	checkNFD(t, w, x, append(points(0x300), many(32*(api.MaxPoints-1), 0x306)...))
	// what has come so is longer than what a call takes
	if y, e := order.NFD(w.d, parted); len(y) > 0 || e != api.ErrLong {
		t.Errorf("12.3: NFD of %d: %d, %d", len(parted), len(y), int(e))
	}

	syllables := many(api.MaxPoints, 0xAC01)
	checkOpen(t, w, syllables, many(api.MaxPoints, 0x1100, 0x1161, 0x11A8))
	checkNFD(t, w, syllables, many(api.MaxPoints, 0x1100, 0x1161, 0x11A8))
}

func TestSeams(t *testing.T) {
	w := houseWorld(t)
	for _, c := range []struct{ x, y, want []rune }{
		{nil, nil, nil}, {points(0xE0), nil, points(0x61, 0x300)}, {nil, points(0xE0), points(0x61, 0x300)},
		{points(0xE0), points(0x323), points(0x61, 0x323, 0x300)}, {points(0x300), points(0x323), points(0x323, 0x300)}, {points(0x61, 0x300), points(0x301, 0x61), points(0x61, 0x300, 0x301, 0x61)},
		{points(0xE0, 0x345), points(0x344, 0x323, 0x61), points(0x61, 0x323, 0x300, 0x308, 0x301, 0x345, 0x61)},
		{points(0x61, 0x300), points(0x61, 0x323), points(0x61, 0x300, 0x61, 0x323)}, {points(0xAC00), points(0x11A8), points(0x1100, 0x1161, 0x11A8)}, {points(0x300), points(-1, 0x323), points(0x300, -1, 0x323)},
	} {
		checkNFD(t, w, slices.Concat(c.x, c.y), c.want)
		checkSeam(t, w, c.x, c.y)
	}
	// what begins the second has class 0 and opens to a mark, or has another class and opens to a starter
	w = rankWorld(t)
	for _, x := range [][]rune{{0x305}, {0x61, 0x305, 0x307}, {0x310}, {0x318, 0x306}} {
		for _, y := range [][]rune{{0x310}, {0x311, 0x300}, {0x313}, {0x314, 0x300}, {0x317, 0x300}, {0x316}, {0x300, 0x61}, {0x318}} {
			checkSeam(t, w, x, y)
		}
	}
}

func TestSeamsOfAllShort(t *testing.T) {
	for _, w := range []*world{houseWorld(t), rankWorld(t)} {
		alphabet := points(0x61, 0xE0, 0x300, 0x323, 0x344)
		if w.name == "ranks" {
			alphabet = points(0x61, 0x300, 0x305, 0x310, 0x313, 0x317)
		}
		var all [][]rune
		eachSequence(alphabet, 3, func(x []rune) { all = append(all, x) })
		for _, x := range all {
			for _, y := range all {
				checkSeam(t, w, x, y)
			}
		}
	}
}

func TestWhatIsHandedInStays(t *testing.T) {
	w := houseWorld(t)
	for _, x := range [][]rune{{0xE0, 0x300, 0x323, 0x1EA7, 0x327}, {0x300, 0x323}, {0x61, 0x62}, {0xAC01}, {-1, 0x300, 0x323, 0x110000}, {}} {
		room := slices.Concat(x, points(0x345, 0x300, 0x323, 0x334, 0x61, 0xE0))
		before := slices.Clone(room)
		part := room[:len(x)]
		other := slices.Clone(room)
		for _, c := range calls {
			c.f(w.d, part)
			c.f(nil, part)
		}
		order.Sorted(w.d, part)
		order.Same(w.d, part, other[:len(x)])
		order.Same(w.d, part, part)
		if !slices.Equal(room, before) || !slices.Equal(other, before) {
			t.Errorf("12: what was handed in, %X, or its spare room, is changed: %X, %X", before, room, other)
		}
	}
}

// overwrite writes over a list, its spare room too.
func overwrite(x []rune) {
	x = x[:cap(x)]
	for i := range x {
		x[i] = 0x7A
	}
}

func TestAnswersAreTheirCallers(t *testing.T) {
	w := houseWorld(t)
	for _, x := range [][]rune{{0xE0, 0x300, 0x323, 0x1EA7, 0x327}, {0x300, 0x323}, {0x61, 0x62}, {0x61}, {0xAC01}, {-1, 0x300, 0x323, 0x110000}, {}} {
		for _, c := range calls {
			want := c.words(w, x)
			room := slices.Concat(x, points(0x345, 0x300, 0x323))
			handed := room[:len(x)]
			y, z := told(t, c.f, w.d, handed), told(t, c.f, w.d, handed)
			overwrite(y)
			if !slices.Equal(room, slices.Concat(x, points(0x345, 0x300, 0x323))) || !slices.Equal(z, want) {
				t.Errorf("%s: writing over an answer of %s(%X) changes what was handed in, or another answer: %X, %X", c.promise, c.name, x, room, z)
			}
			overwrite(room)
			if !slices.Equal(z, want) {
				t.Errorf("%s: writing over what was handed in changes the answer of %s(%X): %X", c.promise, c.name, x, z)
			}
			if again := told(t, c.f, w.d, x); !slices.Equal(again, want) {
				t.Errorf("%s: writing over an answer changes the next one of %s(%X): %X", c.promise, c.name, x, again)
			}
		}
	}
	// nothing of Data is handed out
	for c := rune(0); c < 0x3100; c++ {
		overwrite(told(t, order.Open, w.d, points(c)))
		overwrite(told(t, order.NFD, w.d, points(c)))
	}
	for c := rune(0); c < 0x3100; c++ {
		checkOpen(t, w, points(c), w.full(c))
	}
}

// An answer hangs on nothing that was asked ahead of it, refused calls among them.
func TestCallsAreApart(t *testing.T) {
	draw := rand.New(rand.NewPCG(12, 3))
	w, other := houseWorld(t), rankWorld(t)
	all := w.alphabet()
	for range 300 {
		x, y := w.drawnOf(draw, all, 30), w.drawnOf(draw, all, 30)
		for _, c := range calls {
			first := told(t, c.f, w.d, x)
			c.f(w.d, y)
			c.f(other.d, x)
			c.f(nil, x)
			if again := told(t, c.f, w.d, x); !slices.Equal(first, again) || !slices.Equal(first, c.words(w, x)) {
				t.Fatalf("%s: %s(%X): %X, and again %X", c.promise, c.name, x, first, again)
			}
		}
	}
}
