package feed_test

import (
	"math/rand/v2"
	"slices"
	"testing"

	"endonym/api"
	"endonym/feed"
	"endonym/house"
	"endonym/ucd"
)

func points(c ...rune) []rune { return c }

func many(n int, c ...rune) []rune { return slices.Repeat(c, n) }

// some is what of a sequence is worth showing.
func some(x []rune) []rune { return x[:min(len(x), 16)] }

// step is a Write, what it tells, and what is held behind it.
type step struct{ x, out, held []rune }

func made(t *testing.T, d *ucd.Data) *feed.Feed {
	t.Helper()
	f, e := feed.New(d)
	if f == nil || e != api.OK {
		t.Fatalf("14.1: New: %v, %v", f, e)
	}
	checkHeld(t, f, nil)
	return f
}

func checkWrite(t *testing.T, f *feed.Feed, s step) {
	t.Helper()
	if y, e := f.Write(s.x...); !slices.Equal(y, s.out) || e != api.OK {
		t.Errorf("14.2: Write of %d, %X: %d, %X, %d, want %d, %X", len(s.x), some(s.x), len(y), some(y), int(e), len(s.out), some(s.out))
	}
	checkHeld(t, f, s.held)
}

// checkRefused wants what is held to stay as it is.
func checkRefused(t *testing.T, f *feed.Feed, x, held []rune) {
	t.Helper()
	if y, e := f.Write(x...); len(y) > 0 || e != api.ErrLong {
		t.Errorf("14.2: Write of %d, %X: %d, %X, %d, want ErrLong", len(x), some(x), len(y), some(y), int(e))
	}
	checkHeld(t, f, held)
}

func checkHeld(t *testing.T, f *feed.Feed, want []rune) {
	t.Helper()
	if y := f.Held(); !slices.Equal(y, want) {
		t.Errorf("14.3: Held: %d, %X, want %d, %X", len(y), some(y), len(want), some(want))
	}
}

func checkClose(t *testing.T, f *feed.Feed, want []rune) {
	t.Helper()
	if y := f.Close(); !slices.Equal(y, want) {
		t.Errorf("14.3: Close: %d, %X, want %d, %X", len(y), some(y), len(want), some(want))
	}
	checkHeld(t, f, nil)
}

func TestExamples(t *testing.T) {
	f := made(t, house.Data())
	for _, c := range []struct {
		steps []step
		close []rune
	}{
		{[]step{{points(0x61), nil, points(0x61)}, {points(0x300), nil, points(0x61, 0x300)}, {points(0x62), points(0xE0), points(0x62)}}, points(0x62)},
		{[]step{{points(0x61, 0x62, 0x63), points(0x61, 0x62), points(0x63)}}, points(0x63)},
		{[]step{{points(0x1100), nil, points(0x1100)}, {points(0x1161), nil, points(0x1100, 0x1161)}, {points(0x11A8, 0x61), points(0xAC01), points(0x61)}}, points(0x61)},
	} {
		for _, s := range c.steps {
			checkWrite(t, f, s)
		}
		checkClose(t, f, c.close)
	}
	checkRefused(t, f, many(1025, 0x300), nil)
}

func TestNew(t *testing.T) {
	if f, e := feed.New(nil); f != nil || e != api.ErrArg {
		t.Errorf("14.1: New of nil: %v, %d", f, int(e))
	}
	for _, w := range []*world{houseWorld(t), chainWorld(t), baseWorld(t)} {
		checkClose(t, made(t, w.d), nil)
	}
}

// Each case begins with a Feed that holds nothing; behind its steps Close tells the last.
func TestWrite(t *testing.T) {
	d := house.Data()
	for _, c := range []struct {
		steps []step
		close []rune
	}{
		// nothing comes: while nothing is held, and while something is
		{[]step{{}, {points(), nil, nil}}, nil},
		{[]step{{points(0x61, 0x300), nil, points(0x61, 0x300)}, {nil, nil, points(0x61, 0x300)}, {points(), nil, points(0x61, 0x300)}}, points(0xE0)},
		// one Safe number, while nothing is held: nothing goes out; while something is, that goes out
		{[]step{{points(0x61), nil, points(0x61)}}, points(0x61)},
		{[]step{{points(0x61), nil, points(0x61)}, {points(0x61), points(0x61), points(0x61)}, {points(0xAC00), points(0x61), points(0xAC00)}}, points(0xAC00)},
		{[]step{{points(0x300), nil, points(0x300)}, {points(0x61), points(0x300), points(0x61)}}, points(0x61)},
		// one number that is not Safe
		{[]step{{points(0x300), nil, points(0x300)}, {points(0x300), nil, points(0x300, 0x300)}}, points(0x300, 0x300)},
		{[]step{{points(0x61), nil, points(0x61)}, {points(0x323), nil, points(0x61, 0x323)}, {points(0x300), nil, points(0x61, 0x323, 0x300)}}, points(0xE0, 0x323)},
		// several Safe ones in one Write, first of all and behind what is held
		{[]step{{points(0x61, 0x62, 0x63), points(0x61, 0x62), points(0x63)}}, points(0x63)},
		{[]step{{points(0x61, 0x302, 0x300, 0x62, 0x301, 0x2E, 0x64, 0x307, 0x323, 0x1100, 0x1161, 0x65), points(0x1EA7, 0x62, 0x301, 0x2E, 0x1E0D, 0x307, 0xAC00), points(0x65)}}, points(0x65)},
		{[]step{{points(0x61), nil, points(0x61)}, {points(0x300, 0x65, 0x301, 0x62, 0x323), points(0xE0, 0xE9), points(0x62, 0x323)}, {points(0x6F, 0x6F, 0x300), points(0x62, 0x323, 0x6F), points(0x6F, 0x300)}}, points(0xF2)},
		{[]step{{points(0x65, 0x61), points(0x65), points(0x61)}, {points(0x64, 0x63, 0x62), points(0x61, 0x64, 0x63), points(0x62)}}, points(0x62)},
		// numbers that are not Safe first of all: marks, starters that compose with one ahead, what opens for good
		{[]step{{points(0x300, 0x323), nil, points(0x300, 0x323)}, {points(0x61), points(0x323, 0x300), points(0x61)}}, points(0x61)},
		{[]step{{points(0x9BE, 0x9D7), nil, points(0x9BE, 0x9D7)}, {points(0x9C7), points(0x9BE, 0x9D7), points(0x9C7)}}, points(0x9C7)},
		{[]step{{points(0x11A8, 0x1161), nil, points(0x11A8, 0x1161)}, {points(0x300), nil, points(0x11A8, 0x1161, 0x300)}}, points(0x11A8, 0x1161, 0x300)},
		{[]step{{points(0x212B), nil, points(0x212B)}, {points(0x212B), nil, points(0x212B, 0x212B)}, {points(0x61), points(0xC5, 0xC5), points(0x61)}}, points(0x61)},
		{[]step{{points(0x344, 0x958), nil, points(0x344, 0x958)}, {points(0x334), nil, points(0x344, 0x958, 0x334)}}, points(0x308, 0x301, 0x915, 0x334, 0x93C)},
		// behind a Safe one: a starter is not let out by one that is not Safe, though its class is 0
		{[]step{{points(0x9C7), nil, points(0x9C7)}, {points(0x9BE), nil, points(0x9C7, 0x9BE)}, {points(0x9D7), nil, points(0x9C7, 0x9BE, 0x9D7)}, {points(0x61), points(0x9CB, 0x9D7), points(0x61)}}, points(0x61)},
		{[]step{{points(0x61, 0x212B, 0x301), nil, points(0x61, 0x212B, 0x301)}, {points(0x212B, 0x62), points(0x61, 0xC5, 0x301, 0xC5), points(0x62)}}, points(0x62)},
		// nor by a mark that composes with nothing
		{[]step{{points(0x61, 0x33D, 0x334), nil, points(0x61, 0x33D, 0x334)}, {points(0x62), points(0x61, 0x334, 0x33D), points(0x62)}}, points(0x62)},
		// what is held stays as it came, whatever its NFC
		{[]step{{points(0x1EA7, 0x323, 0x327), nil, points(0x1EA7, 0x323, 0x327)}, {points(0xE0, 0x300, 0x323), points(0x1EA7, 0x327, 0x323), points(0xE0, 0x300, 0x323)}}, points(0xE0, 0x323, 0x300)},
		// Hangul
		{[]step{{points(0xAC00), nil, points(0xAC00)}, {points(0x11A8), nil, points(0xAC00, 0x11A8)}, {points(0x11A8), nil, points(0xAC00, 0x11A8, 0x11A8)}, {points(0xAC01), points(0xAC01, 0x11A8), points(0xAC01)}}, points(0xAC01)},
		{[]step{{points(0x1100), nil, points(0x1100)}, {points(0x1100), points(0x1100), points(0x1100)}, {points(0x1161), nil, points(0x1100, 0x1161)}, {points(0x1100), points(0xAC00), points(0x1100)}}, points(0x1100)},
		// what is no code point is Safe, and composes with nothing
		{[]step{{points(0x61, -1, 0x300, 0x110300, 0x323), points(0x61, -1, 0x300), points(0x110300, 0x323)}, {points(-0x300), points(0x110300, 0x323), points(-0x300)}}, points(-0x300)},
		{[]step{{points(-5), nil, points(-5)}, {points(-5), points(-5), points(-5)}, {points(0x300), nil, points(-5, 0x300)}, {points(0x61, 0x300, 0x11AC01), points(-5, 0x300, 0xE0), points(0x11AC01)}}, points(0x11AC01)},
		{[]step{{noPoints, noPoints[:len(noPoints)-1], noPoints[len(noPoints)-1:]}}, noPoints[len(noPoints)-1:]},
		{[]step{{points(0x300, -1, 0x323, 0xD800, 0x300), points(0x300, -1, 0x323), points(0xD800, 0x300)}}, points(0xD800, 0x300)},
	} {
		f := made(t, d)
		for _, s := range c.steps {
			checkWrite(t, f, s)
		}
		checkClose(t, f, c.close)
	}
}

func TestWriteOfChains(t *testing.T) {
	f := made(t, chainWorld(t).d)
	for _, c := range []struct {
		steps []step
		close []rune
	}{
		// a number whose first part composes with what is ahead is not Safe
		{[]step{{points(0x2000), nil, points(0x2000)}, {points(0x2005), nil, points(0x2000, 0x2005)}, {points(0x2003, 0x61), points(0x2002, 0x2004, 0x2003), points(0x61)}}, points(0x61)},
		{[]step{{points(0x2000, 0x2034), nil, points(0x2000, 0x2034)}, {points(0x2003), nil, points(0x2000, 0x2034, 0x2003)}, {points(0x2002), points(0x2007), points(0x2002)}}, points(0x2002)},
		// a number that composes with itself is never Safe
		{[]step{{points(0x2009, 0x2009), nil, points(0x2009, 0x2009)}, {points(0x200B), nil, points(0x2009, 0x2009, 0x200B)}, {points(0x200C, 0x2009, 0x62), points(0x200C, 0x200C, 0x200B), points(0x62)}}, points(0x62)},
		// Hangul with what is none
		{[]step{{points(0x1100, 0x1161), nil, points(0x1100, 0x1161)}, {points(0x300), nil, points(0x1100, 0x1161, 0x300)}, {points(0x2020), points(0x2020), points(0x2020)}}, points(0x2020)},
		{[]step{{points(0xAC00), nil, points(0xAC00)}, {points(0x2024), nil, points(0xAC00, 0x2024)}, {points(0x2021), points(0xAC01, 0x1161), points(0x2021)}}, points(0x2021)},
		// what opens as others do that compose, and a mark that opens to a starter
		{[]step{{points(0x62), nil, points(0x62)}, {points(0x2030), nil, points(0x62, 0x2030)}, {points(0x301, 0x2035, 0x2033), nil, points(0x62, 0x2030, 0x301, 0x2035, 0x2033)}, {points(0x1E00), points(0x62, 0x1E00, 0xE0), points(0x1E00)}}, points(0x1E00)},
	} {
		for _, s := range c.steps {
			checkWrite(t, f, s)
		}
		checkClose(t, f, c.close)
	}
	// of the base only jamo are not Safe
	f = made(t, baseWorld(t).d)
	checkWrite(t, f, step{points(0x61, 0x300, 0x212B, 0x1100, 0x1161), points(0x61, 0x300, 0x212B), points(0x1100, 0x1161)})
	checkClose(t, f, points(0xAC00))
}

// fillings are 1,025 numbers each, of which none but the first is Safe.
func fillings() [][]rune {
	return [][]rune{
		many(1025, 0x300), many(1025, 0x212B), many(1025, 0x9BE), many(1025, 0x11A8), many(1025, 0x344),
		append(points(0x61), many(1024, 0x300)...), append(points(0x9C7), many(1024, 0x9BE)...), append(points(0x1100), many(1024, 0x1161)...), append(points(-1), many(1024, 0x334)...),
		append(many(512, 0x300), many(513, 0x323)...), append(points(0x2E), many(512, 0x323, 0x33D)...),
	}
}

func TestMostHeld(t *testing.T) {
	w := houseWorld(t)
	for _, full := range fillings() {
		most, last := full[:1024], full[1024]
		normal := w.nfc(t, most)
		f := made(t, w.d)

		// in one Write: one too many, also where a Safe number behind would let them out
		checkRefused(t, f, full, nil)
		checkRefused(t, f, append(slices.Clone(full), 0x61), nil)
		checkRefused(t, f, slices.Concat(points(0x61, 0x62), full, points(last)), nil)
		checkRefused(t, f, slices.Concat(full, points(0x61), most), nil)
		checkRefused(t, f, slices.Concat(full, full), nil)
		// as many as may be, at the end, and ahead of a Safe number
		checkWrite(t, f, step{most, nil, most})
		checkClose(t, f, normal)
		checkWrite(t, f, step{append(slices.Clone(most), 0x61), normal, points(0x61)})
		checkClose(t, f, points(0x61))

		// by several Writes: the last one, alone, with others, and ahead of a Safe number, is one too many
		for _, size := range []int{1, 7, 512, 1000, 1023} {
			for piece := range slices.Chunk(most, size) {
				if y, e := f.Write(piece...); len(y) > 0 || e != api.OK {
					t.Fatalf("14.2: Write of %d: %X, %d", len(piece), some(y), int(e))
				}
			}
			checkHeld(t, f, most)
			checkRefused(t, f, points(last), most)
			checkRefused(t, f, points(last, 0x61), most)
			checkRefused(t, f, many(3, last), most)
			checkRefused(t, f, many(5000, last), most)
			checkWrite(t, f, step{nil, nil, most})
			// a Safe number makes room, for as many again and no more
			checkRefused(t, f, append(points(0x62), many(1024, 0x300)...), most)
			checkRefused(t, f, slices.Concat(points(0x62), many(1024, 0x300), points(0x63)), most)
			checkWrite(t, f, step{append(points(0x62), many(1023, 0x300)...), normal, append(points(0x62), many(1023, 0x300)...)})
			checkRefused(t, f, points(0x300), append(points(0x62), many(1023, 0x300)...))
			checkWrite(t, f, step{points(0x63), append(points(0x62), many(1023, 0x300)...), points(0x63)})
			checkClose(t, f, points(0x63))
		}

		// what is held already counts, at the end of a Write and in its midst
		f = made(t, w.d)
		checkWrite(t, f, step{full[:24], nil, full[:24]})
		checkRefused(t, f, full[24:], full[:24])
		checkRefused(t, f, append(slices.Clone(full[24:]), 0x61), full[:24])
		checkWrite(t, f, step{full[24:1023], nil, full[:1023]})
		checkRefused(t, f, points(last, last), full[:1023])
		checkWrite(t, f, step{full[1023:1024], nil, most})
		checkClose(t, f, normal)
	}
}

// Of 1,024 numbers that are held there may go out 32 times as many.
func TestMuchGoesOut(t *testing.T) {
	f := made(t, chainWorld(t).d)
	checkWrite(t, f, step{many(1024, 0x2100), nil, many(1024, 0x2100)})
	checkWrite(t, f, step{many(2, 0x61), append(many(32*1024, 0x302), 0x61), points(0x61)})
	checkWrite(t, f, step{many(1023, 0x2100), nil, append(points(0x61), many(1023, 0x2100)...)})
	checkClose(t, f, append(points(0x61), many(32*1023, 0x302)...))
	x := append(points(0x61), many(1023, 0x2100)...)
	out := append(points(0x61), many(32*1023, 0x302)...)
	checkWrite(t, f, step{many(5, x...), many(4, out...), x})
	checkClose(t, f, out)
}

// Behind a Write that is refused the Feed answers as one to which it never came.
func TestRefusedChangesNothing(t *testing.T) {
	marks := many(1025, 0x300)
	d := house.Data()
	for _, x := range [][]rune{
		marks, append(slices.Clone(marks), 0x61), append(points(0x62), marks...), slices.Concat(points(0x62, 0x301, 0x63, 0x64), marks),
		slices.Concat(points(0x301, 0x62, 0x301, 0x63), marks, points(0x64, 0x300)), slices.Concat(points(-1, 0x212B), marks, points(-1)), slices.Concat(points(0x1161, 0x11A8, 0xAC00, 0x11A8, 0x62), marks), append(many(api.MaxPoints, 0x62), marks...),
	} {
		for _, c := range []struct{ held, next, out, close []rune }{
			{nil, points(0x300), nil, points(0x300)},
			{points(0x61), points(0x300), nil, points(0xE0)},
			{points(0x61, 0x323), points(0x300, 0x62), points(0xE0, 0x323), points(0x62)},
			{points(0x1100), points(0x1161, 0x11A8, 0x61), points(0xAC01), points(0x61)},
			{points(0x9C7), points(0x9BE), nil, points(0x9CB)},
			{points(0x300, 0x323), points(0x61), points(0x323, 0x300), points(0x61)},
			{points(-1), points(0x300, -1), points(-1, 0x300), points(-1)},
		} {
			f := made(t, d)
			checkWrite(t, f, step{c.held, nil, c.held})
			for range 3 {
				checkRefused(t, f, x, c.held)
			}
			if y, e := f.Write(c.next...); !slices.Equal(y, c.out) || e != api.OK {
				t.Errorf("14.2: behind a refused Write of %d, %X, Write(%X) to %X: %X, %d, want %X", len(x), some(x), c.next, c.held, y, int(e), c.out)
			}
			checkRefused(t, f, append(points(0x2E), marks...), f.Held())
			checkClose(t, f, c.close)
			checkRefused(t, f, x, nil)
			checkClose(t, f, nil)
		}
	}
}

// A Write may have more numbers than norm takes, as long as few of them are held at any moment.
func TestManyNumbers(t *testing.T) {
	full := append(points(0x61), many(1023, 0x300)...)
	fullOut := append(points(0xE0), many(1022, 0x300)...)
	d := house.Data()
	for _, c := range []struct {
		unit, out []rune
		n         int
	}{
		{points(0x61), points(0x61), api.MaxPoints}, {points(0x61), points(0x61), api.MaxPoints + 1}, {points(-1), points(-1), api.MaxPoints + 2},
		{points(0x61, 0x300), points(0xE0), api.MaxPoints + 1}, {points(0x64, 0x307, 0x323), points(0x1E0D, 0x307), api.MaxPoints}, {points(0x1100, 0x1161, 0x11A8), points(0xAC01), api.MaxPoints + 1}, {points(0xAC01), points(0xAC01), 2 * api.MaxPoints}, {points(0x2E, 0x212B, 0x344), points(0x2E, 0xC5, 0x308, 0x301), api.MaxPoints},
		{full, fullOut, 65}, {full, fullOut, 200},
	} {
		f := made(t, d)
		checkWrite(t, f, step{many(c.n, c.unit...), many(c.n-1, c.out...), c.unit})
		checkWrite(t, f, step{many(c.n, c.unit...), many(c.n, c.out...), c.unit})
		// one too many is held at the end, in the midst, at the beginning of them
		for _, x := range [][]rune{append(many(c.n, c.unit...), many(1024, 0x334)...), slices.Concat(many(c.n/2, c.unit...), many(1024, 0x334), many(c.n/2, c.unit...)), append(many(1024, 0x334), many(c.n, c.unit...)...)} {
			checkRefused(t, f, x, c.unit)
		}
		checkClose(t, f, c.out)
	}
}

func TestClose(t *testing.T) {
	f := made(t, house.Data())
	checkClose(t, f, nil)
	checkClose(t, f, nil)
	// what came ahead of a Close has nothing to do with what comes behind it
	for _, c := range []struct{ first, firstOut, second, secondOut []rune }{
		{points(0x61), points(0x61), points(0x300), points(0x300)},
		{points(0x61, 0x300), points(0xE0), points(0x323), points(0x323)},
		{points(0x300), points(0x300), points(0x323), points(0x323)},
		{points(0x1100), points(0x1100), points(0x1161, 0x11A8), points(0x1161, 0x11A8)},
		{points(0x9C7), points(0x9C7), points(0x9BE), points(0x9BE)},
		{points(0x212B), points(0xC5), points(0x61, 0x302, 0x300), points(0x1EA7)},
		{points(-1), points(-1), nil, nil},
	} {
		checkWrite(t, f, step{c.first, nil, c.first})
		checkClose(t, f, c.firstOut)
		checkClose(t, f, nil)
		checkWrite(t, f, step{nil, nil, nil})
		checkWrite(t, f, step{c.second, nil, c.second})
		checkClose(t, f, c.secondOut)
		checkClose(t, f, nil)
	}
	// there is room for as many as in a new one, and no more
	for range 3 {
		checkWrite(t, f, step{many(1024, 0x301), nil, many(1024, 0x301)})
		checkClose(t, f, many(1024, 0x301))
		checkRefused(t, f, many(1025, 0x301), nil)
	}
	// the first Safe number behind a Close finds nothing held
	checkWrite(t, f, step{points(0x61, 0x62), points(0x61), points(0x62)})
	checkClose(t, f, points(0x62))
	checkWrite(t, f, step{points(0x63), nil, points(0x63)})
}

func TestEveryCut(t *testing.T) {
	for _, c := range []struct {
		w    *world
		list []struct{ x, want []rune }
	}{
		{houseWorld(t), []struct{ x, want []rune }{
			{nil, nil}, {points(0x61), points(0x61)}, {points(0x300), points(0x300)},
			{points(0x61, 0x302, 0x300, 0x323, 0x62, 0x323, 0x64, 0x307, 0x323), points(0x1EA7, 0x323, 0x62, 0x323, 0x1E0D, 0x307)},
			{points(0x300, 0x323, 0x327, 0x61, 0x345, 0x315, 0x323, 0x300, 0x334), points(0x327, 0x323, 0x300, 0xE0, 0x334, 0x323, 0x315, 0x345)},
			{points(0x3B1, 0x345, 0x301, 0x2E, 0x3B1, 0x344, 0x1F71, 0x345), points(0x3AC, 0x345, 0x2E, 0x3B1, 0x308, 0x301, 0x3AC, 0x345)},
			{points(0x1100, 0x1161, 0x11A8, 0x11A8, 0x1100, 0x1100, 0x1161, 0x300, 0x11A8), points(0xAC01, 0x11A8, 0x1100, 0xAC00, 0x300, 0x11A8)},
			{points(0xAC00, 0x11A8, 0xAC01, 0x11A8, 0x1161, 0x61, 0x300, 0x1112, 0x1175, 0x11C2), points(0xAC01, 0xAC01, 0x11A8, 0x1161, 0xE0, 0xD7A3)},
			{points(0x9C7, 0x9BE, 0x9D7, 0x9C7, 0x323, 0x9BE, 0x9C7, 0x9C7, 0x9D7), points(0x9CB, 0x9D7, 0x9C7, 0x323, 0x9BE, 0x9C7, 0x9CC)},
			{points(0x212B, 0x301, 0x340, 0x61, 0x340, 0x958, 0xFB2E, 0x5B0), points(0xC5, 0x301, 0x300, 0xE0, 0x915, 0x93C, 0x5D0, 0x5B0, 0x5B7)},
			{points(-1, 0x300, 0x323, 0x110300, 0x61, -0x300, 0x300, 0x11AC00, 0x11A8), points(-1, 0x323, 0x300, 0x110300, 0x61, -0x300, 0x300, 0x11AC00, 0x11A8)},
			{points(0x110A5, 0x110B9, 0x110BA, 0x304B, 0x94D, 0x3099, 0x928, 0x94D, 0x93C), points(0x110AB, 0x110B9, 0x304C, 0x94D, 0x929, 0x94D)},
		}},
		{chainWorld(t), []struct{ x, want []rune }{
			{points(0x2000, 0x2001, 0x2003, 0x2000, 0x2005, 0x2003, 0x2000, 0x2034), points(0x2007, 0x2002, 0x2004, 0x2003, 0x2002)},
			{points(0x2009, 0x2009, 0x2009, 0x200B, 0x200B, 0x61, 0x2009, 0x200C), points(0x200C, 0x200C, 0x2009, 0x61, 0x200C, 0x2009)},
			{points(0x1100, 0x1161, 0x300, 0x11A8, 0x2024, 0xAC00, 0x2024, 0xAC01, 0x11A8), points(0x2020, 0x11A8, 0x2024, 0xAC01, 0x1161, 0x2021)},
			{points(0x61, 0x2033, 0x301, 0x2030, 0x2035, 0x323, 0x62, 0x2035, 0x300), points(0x1E00, 0xE0, 0x1E02, 0x62, 0xE0)},
		}},
	} {
		for _, l := range c.list {
			eachCut(l.x, func(pieces [][]rune) {
				f := made(t, c.w.d)
				var y []rune
				for _, p := range pieces {
					out, e := f.Write(p...)
					if e != api.OK {
						t.Fatalf("14.2: %s: Write(%X): %v", c.w.name, p, e)
					}
					y = append(y, out...)
				}
				if y = append(y, f.Close()...); !slices.Equal(y, l.want) {
					t.Fatalf("14.4: %s: %X: %X, want %X", c.w.name, pieces, y, l.want)
				}
			})
			if y := c.w.nfc(t, l.x); !slices.Equal(y, l.want) {
				t.Errorf("%s: NFC of %X: %X, want %X", c.w.name, l.x, y, l.want)
			}
		}
	}
}

// All short sequences of some alphabets, in all cuts, to one Feed: each begins behind the Close of the last.
func TestAllShort(t *testing.T) {
	for _, c := range []struct {
		w        *world
		alphabet []rune
	}{
		{houseWorld(t), points(0x61, 0xE2, 0x300, 0x323, 0x212B, -5)},
		{houseWorld(t), points(0x1100, 0x1161, 0x11A8, 0xAC00, 0x300, 0x2E)},
		{houseWorld(t), points(0x9C7, 0x9BE, 0x9D7, 0x9CB, 0x334, 0x344)},
		{chainWorld(t), points(0x2000, 0x2001, 0x2003, 0x2005, 0x300, 0x2034)},
		{chainWorld(t), points(0x2009, 0x200B, 0x61, 0x323, 0x2030, 0x2035)},
		{chainWorld(t), points(0x1100, 0x1161, 0x11A8, 0x300, 0x2024, 0x2020)},
		{baseWorld(t), points(0x61, 0x300, 0x1161, 0xAC00)},
	} {
		f := c.w.fed(t)
		last := [][]rune{nil}
		for range 4 {
			var next [][]rune
			for _, x := range last {
				for _, a := range c.alphabet {
					next = append(next, append(slices.Clone(x), a))
				}
			}
			for _, x := range next {
				eachCut(x, func(pieces [][]rune) {
					for _, p := range pieces {
						f.write(t, p...)
					}
					f.close(t)
				})
			}
			if t.Failed() {
				t.FailNow()
			}
			last = next
		}
	}
}

func TestDrawn(t *testing.T) {
	draw := rand.New(rand.NewPCG(14, 1))
	worlds := []*world{houseWorld(t), chainWorld(t), baseWorld(t)}
	for range 150 {
		worlds = append(worlds, drawnWorld(t, draw))
	}
	composed, early, late := 0, 0, 0
	for _, w := range worlds {
		f := w.fed(t)
		for range 40 {
			x := w.drawn(draw, 30)
			for _, p := range drawnCut(draw, x) {
				f.write(t, p...)
			}
			if len(f.out) > 0 {
				early++
			}
			if len(f.f.Held()) > 1 {
				late++
			}
			if len(w.nfc(t, x)) < len(x) {
				composed++
			}
			f.close(t)
		}
		if t.Failed() {
			t.FailNow()
		}
	}
	if min(composed, early, late) < 1000 {
		t.Errorf("the draws are thin: %d, %d, %d", composed, early, late)
	}
}

// Long sequences, with rows of marks about as long as may be held: Writes that are refused stand between the others.
func TestDrawnLong(t *testing.T) {
	draw := rand.New(rand.NewPCG(14, 2))
	refused, taken := 0, 0
	for _, w := range []*world{houseWorld(t), chainWorld(t)} {
		f := w.fed(t)
		for range 25 {
			for range 8 + draw.IntN(8) {
				x := w.drawn(draw, 20)
				x = append(x, many(draw.IntN(1100), 0x300+rune(draw.IntN(2)))...)
				if f.write(t, append(x, w.drawn(draw, 3)...)...) {
					taken++
				} else {
					refused++
				}
			}
			f.close(t)
		}
	}
	if min(refused, taken) < 50 {
		t.Errorf("the draws are thin: %d, %d", refused, taken)
	}
}

// What has gone out begins the NFC, whatever comes behind it.
func TestNeverTakenBack(t *testing.T) {
	draw := rand.New(rand.NewPCG(14, 3))
	worlds := []*world{houseWorld(t), chainWorld(t)}
	for range 40 {
		worlds = append(worlds, drawnWorld(t, draw))
	}
	for _, w := range worlds {
		for range 30 {
			x := w.drawn(draw, 20)
			f := made(t, w.d)
			var out []rune
			for _, p := range drawnCut(draw, x) {
				y, _ := f.Write(p...)
				out = append(out, y...)
			}
			if whole := slices.Concat(out, w.nfc(t, f.Held())); !slices.Equal(whole, w.nfc(t, x)) {
				t.Errorf("14.4: %s: %X: %X has gone out, %X is held", w.name, x, out, f.Held())
			}
			for _, c := range w.all {
				y := w.nfc(t, slices.Concat(x, points(c), w.drawn(draw, 6)))
				if len(y) < len(out) || !slices.Equal(y[:len(out)], out) {
					t.Fatalf("14.4: %s: %X: %X has gone out, but with %X behind its NFC begins %X", w.name, x, out, c, some(y))
				}
			}
		}
	}
}

// Feeds side by side, of one Data and of others, hold each its own.
func TestSideBySide(t *testing.T) {
	draw := rand.New(rand.NewPCG(14, 4))
	h, c := houseWorld(t), chainWorld(t)
	feeds := []*watched{h.fed(t), h.fed(t), c.fed(t), h.fed(t), c.fed(t)}
	for range 4000 {
		f := feeds[draw.IntN(len(feeds))]
		switch draw.IntN(12) {
		case 0:
			f.close(t)
		case 1:
			f.write(t, append(f.drawn(draw, 4), many(1025, 0x300)...)...)
		default:
			f.write(t, f.drawn(draw, 6)...)
		}
		if t.Failed() {
			t.FailNow()
		}
	}
	a, b := made(t, h.d), made(t, h.d)
	checkWrite(t, a, step{points(0x61), nil, points(0x61)})
	checkWrite(t, b, step{points(0x300), nil, points(0x300)})
	checkWrite(t, b, step{many(1023, 0x300), nil, many(1024, 0x300)})
	checkWrite(t, a, step{points(0x302), nil, points(0x61, 0x302)})
	checkClose(t, b, many(1024, 0x300))
	checkHeld(t, a, points(0x61, 0x302))
	checkClose(t, a, points(0xE2))
}

// overwrite writes over a list, its spare room too.
func overwrite(x []rune) {
	x = x[:cap(x)]
	for i := range x {
		x[i] = 0x7A
	}
}

func TestWhatIsHandedInStays(t *testing.T) {
	d := house.Data()
	behind := points(0x345, 0x300, 0x323, 0x334, 0x61, 0xE0)
	for _, x := range [][]rune{{}, {0x61}, {0x300, 0x323}, {0xE0, 0x300, 0x323, 0x1EA7, 0x327}, {0x61, 0x302, 0x300, 0x62}, {0x61, 0x62, 0x63}, {0x1100, 0x1161, 0x11A8}, {0x212B}, {-1, 0x300, 0x323, 0x110000}, many(1025, 0x300), append(points(0x61, 0x62), many(1025, 0x300)...)} {
		for _, ahead := range [][]rune{nil, {0x61}, {0x300}, many(1024, 0x300)} {
			room := slices.Concat(x, behind)
			f, twin := made(t, d), made(t, d)
			f.Write(ahead...)
			twin.Write(ahead...)
			y, e := f.Write(room[:len(x)]...)
			f.Held()
			if !slices.Equal(room, slices.Concat(x, behind)) {
				t.Errorf("14.2: Write of %X changes what is handed in, or its spare room: %X", some(x), some(room))
			}
			// nor is it kept
			overwrite(room)
			want, wanted := twin.Write(x...)
			if !slices.Equal(y, want) || e != wanted {
				t.Errorf("14.2: Write of %X: writing over what was handed in changes what was told: %X, want %X", some(x), some(y), some(want))
			}
			checkHeld(t, f, twin.Held())
			room = slices.Concat(points(0x327, 0x65), behind)
			y, _ = f.Write(room[:2]...)
			overwrite(room)
			want, _ = twin.Write(0x327, 0x65)
			if !slices.Equal(y, want) {
				t.Errorf("14.2: behind a Write of %X: %X, want %X", some(x), some(y), some(want))
			}
			checkClose(t, f, twin.Close())
		}
	}
}

// To one Feed answers are written over as soon as they are told; those of the other are kept beside what they were.
func TestAnswersAreTheirCallers(t *testing.T) {
	draw := rand.New(rand.NewPCG(14, 5))
	w := houseWorld(t)
	over, left := made(t, w.d), made(t, w.d)
	taken := func(x []rune) []rune {
		y := slices.Clone(x)
		overwrite(x)
		return y
	}
	var answers, copies [][]rune
	told := func(x, y []rune) {
		if !slices.Equal(x, y) {
			t.Fatalf("14: %X where answers are written over, %X where not", some(x), some(y))
		}
		answers, copies = append(answers, y), append(copies, x)
	}
	for range 3000 {
		x := w.drawn(draw, 8)
		switch draw.IntN(10) {
		case 0:
			told(taken(over.Close()), left.Close())
		case 1:
			x = append(x, many(1025, 0x300)...)
		case 2:
			x = append(x, many(100, 0x300)...)
		}
		y, e := over.Write(x...)
		y = taken(y)
		z, other := left.Write(x...)
		told(y, z)
		if e != other {
			t.Fatalf("14.2: Write of %X: %d and %d", some(x), int(e), int(other))
		}
		for range 2 {
			told(taken(over.Held()), left.Held())
		}
	}
	for i, y := range answers {
		if !slices.Equal(y, copies[i]) {
			t.Fatalf("14: answer %d was %X, and is %X", i, some(copies[i]), some(y))
		}
	}
}
