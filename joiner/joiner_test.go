package joiner_test

import (
	"math"
	"math/rand/v2"
	"slices"
	"testing"

	"endonym/api"
	"endonym/house"
	"endonym/joiner"
	"endonym/ucd"
)

func points(c ...rune) []rune { return c }

func many(n int, c ...rune) []rune { return slices.Repeat(c, n) }

// some is what of a sequence is worth showing.
func some(x []rune) []rune { return x[:min(len(x), 16)] }

func checkFits(t *testing.T, d *ucd.Data, x []rune, i int, want bool) {
	t.Helper()
	if joiner.Fits(d, x, i) != want {
		t.Errorf("16.1: Fits of %d, %X, %d: want %t", len(x), some(x), i, want)
	}
}

func checkCheck(t *testing.T, d *ucd.Data, x []rune, want int) {
	t.Helper()
	if at := joiner.Check(d, x); at != want {
		t.Errorf("16.2: Check of %d, %X: %d, want %d", len(x), some(x), at, want)
	}
}

// checkPlaces wants just those places of x not to fit, and Check to tell the first of them.
func checkPlaces(t *testing.T, d *ucd.Data, x []rune, wrong ...int) {
	t.Helper()
	for i := range x {
		checkFits(t, d, x, i, !slices.Contains(wrong, i))
	}
	checkCheck(t, d, x, append(slices.Clone(wrong), -1)[0])
}

func TestExamples(t *testing.T) {
	d := house.Data()
	checkPlaces(t, d, points(0x915, 0x94D, 0x200D, 0x937))
	checkPlaces(t, d, points(0x915, 0x200D), 1)
	checkPlaces(t, d, points(0x628, 0x200C, 0x628))
	checkPlaces(t, d, points(0x628, 0x64E, 0x200C, 0x64E, 0x627))
	checkPlaces(t, d, points(0x627, 0x200C, 0x628), 1)
	checkPlaces(t, d, points(0x200C), 0)
	checkPlaces(t, d, points(0x628, 0x200C), 1)
	checkPlaces(t, d, points(0x628, 0x200C, 0x61), 1)
	checkPlaces(t, d, points(0x61, 0x94D, 0x200C))
	checkPlaces(t, d, points(0x61, 0x200C, 0x62), 1)
}

// Without Data no place fits, whatever stands there.
func TestNoData(t *testing.T) {
	for _, x := range [][]rune{nil, {}, {0x61}, {0x200C}, {0x200D}, {-1}, {0x61, 0x62}, {0x94D, 0x200D}, {0x628, 0x200C, 0x628}, {0x61, 0x200C}, many(100_000, 0x61)} {
		for _, i := range slices.Concat(noPlaces(x), []int{0, 1, 2, len(x) - 1}) {
			checkFits(t, nil, x, i, false)
		}
		if len(x) == 0 {
			checkCheck(t, nil, x, -1)
		} else {
			checkCheck(t, nil, x, 0)
		}
	}
	checkCheck(t, nil, points(0x61, 0x62, 0x200C)[:0], -1)
}

func noPlaces(x []rune) []int {
	n := len(x)
	return []int{-1, -2, -n, -n - 1, n, n + 1, n + 2, 2*n + 1, -1000, 1 << 31, 1<<32 - 1, 1 << 32, 1<<32 + 1, -1 << 31, -1 << 32, math.MinInt, math.MinInt + 1, math.MaxInt, math.MaxInt - 1}
}

func TestNoPlace(t *testing.T) {
	for _, d := range []*ucd.Data{house.Data(), seatWorld(t).d, baseWorld(t).d} {
		for _, x := range [][]rune{nil, {}, {0x61}, {0x61, 0x62}, {-1, 0x110000}, {0x94D, 0x200D}, {0x628, 0x200C, 0x628}, {0x61, 0x94D}, many(100_000, 0x61), many(5, 0x628, 0x200C)} {
			for _, i := range noPlaces(x) {
				if i != 0 || len(x) == 0 {
					checkFits(t, d, x, i, false)
				}
			}
		}
		checkFits(t, d, nil, 0, false)
		// the spare room behind a sequence is no place of it, and joins nothing
		room := points(0x628, 0x200C, 0x628, 0x61, 0x94D, 0x200D)
		for n := range room {
			for i := n; i < len(room); i++ {
				checkFits(t, d, room[:n], i, false)
			}
		}
		checkFits(t, d, room[:2], 1, false)
		checkCheck(t, d, room[:2], 1)
		checkCheck(t, d, room[:0], -1)
		// nor is what stands ahead of it in the same memory
		checkFits(t, d, room[5:], 0, false)
		checkFits(t, d, room[1:3], 0, false)
		checkFits(t, d, room[5:], -1, false)
	}
}

// What is no joiner fits at every place, whatever stands beside it.
func TestNoJoiner(t *testing.T) {
	numbers := slices.Concat(points(0, 0x2D, 0x61, 0x628, 0x64E, 0x94D, 0x190, 0x195, 0x253, 0x255, 0x640, 0x200, 0xC, 0xD, 0x200A, 0x200B, 0x200E, 0x200F, 0x210C, 0x210D, 0x300C, 0x1200C, 0x1200D, 0x10200C, 0xD800, 0xDFFF, 0xFEFF, 0x10FFFF), noPoints)
	for _, w := range []*world{houseWorld(t), seatWorld(t), baseWorld(t)} {
		for _, c := range numbers {
			checkPlaces(t, w.d, points(c))
			checkPlaces(t, w.d, many(7, c))
			for _, beside := range numbers {
				checkPlaces(t, w.d, points(c, beside))
				checkPlaces(t, w.d, points(beside, c, beside))
			}
			// joiners beside it that do not fit do not make it unfit
			checkPlaces(t, w.d, points(0x200C, c, 0x61), 0)
			checkPlaces(t, w.d, points(0x200D, c, 0x200B), 0)
			checkPlaces(t, w.d, points(0x61, c, 0x61, 0x200D), 3)
		}
		checkPlaces(t, w.d, numbers)
	}
}

// What is no code point joins nothing, and is no virama and no T.
func TestNoPointsBeside(t *testing.T) {
	for _, w := range []*world{houseWorld(t), seatWorld(t)} {
		joins := rune(0x628)
		if w.name == "seats" {
			joins = typed[api.JoinD]
		}
		checkPlaces(t, w.d, points(joins, 0x200C, joins))
		for _, c := range noPoints {
			checkPlaces(t, w.d, points(c, 0x200C, joins), 1)
			checkPlaces(t, w.d, points(joins, 0x200C, c), 1)
			checkPlaces(t, w.d, points(joins, c, 0x200C, joins), 2)
			checkPlaces(t, w.d, points(joins, 0x200C, c, joins), 1)
			checkPlaces(t, w.d, points(c, 0x200D, joins), 1)
			checkPlaces(t, w.d, points(c, joins, 0x200C, joins, c))
		}
	}
}

// Both joiners alone, first and last.
func TestEnds(t *testing.T) {
	for _, w := range []*world{houseWorld(t), seatWorld(t), baseWorld(t)} {
		for _, j := range points(0x200C, 0x200D) {
			checkPlaces(t, w.d, points(j), 0)
			for _, c := range slices.Concat(points(0x61, 0x628, 0x94D, 0x200B, 0x64E), typed[:], viramas[:], noPoints) {
				first := points(j, c)
				checkPlaces(t, w.d, first, 0)
				last := points(c, j)
				if w.class(c) == 9 {
					checkPlaces(t, w.d, last)
				} else {
					checkPlaces(t, w.d, last, 1)
				}
				checkPlaces(t, w.d, slices.Concat(first, points(0x61, 0x62)), 0)
			}
		}
	}
}

func TestVirama(t *testing.T) {
	d := seatWorld(t).d
	for _, j := range points(0x200C, 0x200D) {
		for kind, v := range viramas {
			// right ahead, whatever else is there
			checkPlaces(t, d, points(v, j))
			checkPlaces(t, d, points(0x61, v, j))
			checkPlaces(t, d, points(0x61, v, j, 0x61))
			checkPlaces(t, d, points(typed[api.JoinR], v, j, typed[api.JoinL]))
			checkPlaces(t, d, points(v, v, v, j))
			// further ahead it is none
			checkPlaces(t, d, points(v, 0x61, j), 2)
			checkPlaces(t, d, points(v, typed[api.JoinT], j), 2)
			checkPlaces(t, d, points(v, typed[api.JoinR], j, typed[api.JoinD]), 2)
			checkPlaces(t, d, points(v, -1, j), 2)
			// behind it is none
			checkPlaces(t, d, points(j, v), 0)
			checkPlaces(t, d, points(0x61, j, v), 1)
			checkPlaces(t, d, points(0x61, j, v, j), 1)
			// it joins by its own type, where it stands amid a walk
			through := points(v, typed[api.JoinT], j, typed[api.JoinD])
			if j == 0x200C && (kind == api.JoinL || kind == api.JoinD) {
				checkPlaces(t, d, through)
			} else {
				checkPlaces(t, d, through, 2)
			}
		}
		checkPlaces(t, d, points(0x256, j))
		checkPlaces(t, d, points(0xDC00, j))
		checkPlaces(t, d, points(0x10FFFF, j))
		// the classes next to 9, and others that have a 9, or its bits
		for _, c := range points(0x180, 0x181, 0x182, 0x183, 0x184, 0x185, 0x257, 0x61, 0x18F, 0x196) {
			checkPlaces(t, d, points(0x61, c, j), 2)
			checkPlaces(t, d, points(c, j, 0x61), 1)
		}
	}
	for _, j := range points(0x200C, 0x200D) {
		d := house.Data()
		for _, v := range points(0x94D, 0x9CD, 0x110B9) {
			checkPlaces(t, d, points(v, j))
			checkPlaces(t, d, points(0x915, v, j, 0x937))
			checkPlaces(t, d, points(v, 0x915, j), 2)
			checkPlaces(t, d, points(v, 0x93C, j), 2)
		}
		for _, c := range points(0x3099, 0x93C, 0x5B0, 0x334, 0x110BA) {
			checkPlaces(t, d, points(0x915, c, j), 2)
		}
	}
}

// Every two types at either side, nothing at all there too, with none, one and many numbers of the type T between.
func TestTypes(t *testing.T) {
	d := seatWorld(t).d
	rows := [][]rune{nil, {0x255}, {0x255, 0x257}, {0xDFFF}, many(50, 0x255, 0x257, 0xDFFF), many(3000, 0x255)}
	sides := append(typed[:], 0)
	for _, a := range sides {
		for _, b := range sides {
			for _, before := range rows {
				for _, after := range rows {
					ahead, behind := append(points(a), before...), append(slices.Clone(after), b)
					if a == 0 {
						ahead = before
					}
					if b == 0 {
						behind = after
					}
					joins := (a == 0x252 || a == 0x253) && (b == 0x251 || b == 0x253)
					at := len(ahead)
					x := slices.Concat(ahead, points(0x200C), behind)
					checkFits(t, d, x, at, joins)
					if joins {
						at = -1
					}
					checkCheck(t, d, x, at)
					// 200D is of no type's matter
					x[len(ahead)] = 0x200D
					checkFits(t, d, x, len(ahead), false)
					checkCheck(t, d, x, len(ahead))
				}
			}
		}
	}
}

// The same in the house table's letters, and of 200D with a virama ahead whatever is round it.
func TestHouseTypes(t *testing.T) {
	d := house.Data()
	letters := [6]rune{api.JoinU: 0x61, api.JoinR: 0x627, api.JoinD: 0x628, api.JoinC: 0x640, api.JoinT: 0x64E}
	for a, x := range letters {
		for b, y := range letters {
			if x == 0 || y == 0 {
				continue
			}
			for _, row := range [][]rune{nil, {0x64E}, {0x651, 0x300}, {0x200B, 0x345, 0x94D, 0x5B0}} {
				z := slices.Concat(points(x), row, points(0x200C), row, points(y))
				if a == api.JoinD && (b == api.JoinR || b == api.JoinD) {
					checkPlaces(t, d, z)
				} else {
					checkPlaces(t, d, z, 1+len(row))
				}
				z[1+len(row)] = 0x200D
				checkPlaces(t, d, z, 1+len(row))
				checkPlaces(t, d, slices.Concat(points(x), row, points(0x94D, 0x200D), row, points(y)))
			}
		}
	}
	checkPlaces(t, d, points(0x626, 0x200C, 0x6CC))
	checkPlaces(t, d, points(0x1E900, 0x200C, 0x1E943))
	checkPlaces(t, d, points(0x1E900, 0x200C, 0x1E944), 1)
	checkPlaces(t, d, points(0x628, 0x640, 0x200C, 0x628), 2)
	checkPlaces(t, d, points(0x628, 0x200C, 0x640, 0x628), 1)
}

// Two joiners one behind the other. In the house 200C has the type U, 200D the type C, and both the class 0.
func TestTwoJoiners(t *testing.T) {
	d := house.Data()
	checkPlaces(t, d, points(0x200C, 0x200C), 0, 1)
	checkPlaces(t, d, points(0x200C, 0x200D), 0, 1)
	checkPlaces(t, d, points(0x200D, 0x200C), 0, 1)
	checkPlaces(t, d, points(0x200D, 0x200D), 0, 1)
	for _, a := range points(0x200C, 0x200D) {
		for _, b := range points(0x200C, 0x200D) {
			checkPlaces(t, d, points(0x628, a, b, 0x628), 1, 2)
			checkPlaces(t, d, points(0x94D, a, b), 2)
			checkPlaces(t, d, points(0x628, 0x94D, a, b, 0x628), 3)
			checkPlaces(t, d, points(0x628, 0x94D, a, 0x94D, b))
			checkPlaces(t, d, points(0x628, a, 0x64E, b, 0x628), 1, 3)
		}
	}
	checkPlaces(t, d, points(0x628, 0x200C, 0x628, 0x200C, 0x628))
	checkPlaces(t, d, points(0x628, 0x200C, 0x627, 0x200C, 0x628), 3)
	checkPlaces(t, d, points(0x628, 0x200C, 0x628, 0x200D, 0x628), 3)
}

// Tables in which the joiners have a type and a class of their own.
func TestJoinersOfOwnType(t *testing.T) {
	for first, a := range " URLDCT" {
		for second, b := range " URLDCT" {
			for _, class := range []string{"", "class 200C 9\n", "class 200D 9\n", "class 200C..200D 9\n", "class 200C 8\nclass 200D 10\n"} {
				s := seats + class
				if first > 0 {
					s += "join 200C " + string(a) + "\n"
				}
				if second > 0 {
					s += "join 200D " + string(b) + "\n"
				}
				w := written(t, "joiners "+string(a)+string(b)+" "+class, s)
				w.checkShort(t, 4, 0x200C, 0x200D, 0x253, 0x255, 0x190)
			}
		}
	}
}

// The same by hand, of 200C and 200D as each other's neighbours.
func TestJoinersByHand(t *testing.T) {
	through := written(t, "200C is T", seats+"join 200C T\n").d
	checkPlaces(t, through, points(0x253, 0x200C, 0x200C, 0x200C, 0x253))
	checkPlaces(t, through, points(0x200C, 0x200C, 0x253), 0, 1)
	checkPlaces(t, through, points(0x253, 0x200C, 0x200C), 1, 2)
	checkPlaces(t, through, points(0x253, 0x200C, 0x255, 0x200C, 0x61), 1, 3)
	checkPlaces(t, through, points(0x253, 0x200C, 0x253, 0x200C, 0x200C, 0x251, 0x200C, 0x253), 6)
	checkPlaces(t, through, points(0x251, 0x190, 0x200C, 0x200C, 0x253), 3)
	checkPlaces(t, through, points(0x251, 0x195, 0x200C, 0x200C, 0x253), 3)
	checkPlaces(t, through, points(0x253, 0x195, 0x200C, 0x200C, 0x61), 3)
	checkPlaces(t, through, points(0x253, 0x200C, 0x253, 0x61, 0x200C, 0x253), 4)
	checkPlaces(t, through, points(0x253, 0x200C, 0x200D, 0x200C, 0x253), 1, 2, 3)

	dual := written(t, "200C is D", seats+"join 200C D\n").d
	checkPlaces(t, dual, points(0x200C, 0x200C), 0, 1)
	checkPlaces(t, dual, points(0x200C, 0x200C, 0x200C), 0, 2)
	checkPlaces(t, dual, points(0x253, 0x200C, 0x200C, 0x61), 2)
	checkPlaces(t, dual, points(0x253, 0x200C, 0x200C, 0x200C, 0x251))
	checkPlaces(t, dual, points(0x200D, 0x200C, 0x200C), 0, 1, 2)

	other := written(t, "200D is T", seats+"join 200D T\n").d
	checkPlaces(t, other, points(0x253, 0x200D, 0x200C, 0x253), 1)
	checkPlaces(t, other, points(0x253, 0x190, 0x200D, 0x200C, 0x253), 3)
	checkPlaces(t, other, points(0x253, 0x195, 0x200D, 0x200C, 0x253))
	checkPlaces(t, other, points(0x253, 0x200C, 0x200D, 0x253), 2)

	viramas := written(t, "200C is a virama", seats+"class 200C 9\n").d
	checkPlaces(t, viramas, points(0x200C, 0x200D, 0x200D), 0, 2)
	checkPlaces(t, viramas, points(0x253, 0x200C, 0x253, 0x200C, 0x61), 3)
	checkPlaces(t, viramas, points(0x253, 0x200C, 0x200C, 0x200D, 0x61), 1)
	checkPlaces(t, viramas, points(0x190, 0x200C, 0x200C, 0x200C, 0x200D))
}

// Check tells the first place of several.
func TestCheckFirst(t *testing.T) {
	d := house.Data()
	checkCheck(t, d, nil, -1)
	checkCheck(t, d, points(), -1)
	good := points(0x628, 0x200C, 0x628, 0x94D, 0x200D, 0x61, -1)
	checkPlaces(t, d, good)
	for n := range 20 {
		x := many(n, good...)
		checkPlaces(t, d, x)
		for _, wrong := range [][]rune{{0x200D}, {0x200C, 0x61}, {0x200D, 0x200D}, {0x200D, 0x61, 0x200C, 0x61, 0x200D}} {
			checkCheck(t, d, slices.Concat(x, wrong), len(x))
			checkCheck(t, d, slices.Concat(x, wrong, x, wrong), len(x))
			checkCheck(t, d, slices.Concat(x, wrong, x), len(x))
		}
	}
	checkCheck(t, d, slices.Concat(many(200_000, 0x61), points(0x200C)), 200_000)
	checkCheck(t, d, many(100_000, 0x628, 0x200C), 199_999)
	checkCheck(t, d, slices.Concat(many(100_000, 0x628, 0x200C), points(0x627)), -1)
}

// Long rows take as many steps a number as short ones, even where 200C itself is T.
func TestLongRows(t *testing.T) {
	const n = 1 << 20
	house, through := house.Data(), written(t, "200C is T", seats+"join 200C T\n").d
	x := slices.Concat(points(0x628), many(n, 0x64E), points(0x200C), many(n, 0x64E), points(0x627))
	checkFits(t, house, x, n+1, true)
	checkCheck(t, house, x, -1)
	checkFits(t, house, x[:len(x)-1], n+1, false)
	checkCheck(t, house, x[:len(x)-1], n+1)
	checkFits(t, house, x[1:], n, false)
	checkCheck(t, house, x[1:], n)

	x = slices.Concat(points(0x253), many(n, 0x200C), points(0x251))
	checkCheck(t, through, x, -1)
	checkCheck(t, through, slices.Concat(x, points(0x200C)), n+2)
	checkCheck(t, through, slices.Concat(points(0x253), many(n/2, 0x200C, 0x255), points(0x253), many(n/2, 0x255, 0x200C), points(0x251)), -1)
	checkCheck(t, through, slices.Concat(points(0x253), many(n/2, 0x195, 0x200C), points(0x253)), -1)
	checkCheck(t, through, slices.Concat(points(0x251), many(n/2, 0x195, 0x200C), points(0x200C, 0x251)), n+1)
	checkCheck(t, through, slices.Concat(points(0x253), many(n/2, 0x200C, 0x193), points(0x251)), -1)
	for _, i := range []int{1, 2, n / 2, n - 1, n} {
		checkFits(t, through, x, i, true)
		checkFits(t, through, x[:n+1], i, false)
		checkFits(t, through, x[1:], i-1, false)
	}
}

// Whatever stands ahead of the nearest number that is not T, or behind it, nothing hangs on it (16.3).
func TestNoMatter(t *testing.T) {
	d := seatWorld(t).d
	far := [][]rune{nil, {0x61}, {0x253}, {0x251}, {0x255}, {0x190}, {0x195}, {0x200C}, {0x200D}, {-1}, {0x253, 0x200C, 0x253}, {0x190, 0x200C}, many(100, 0x255), many(30, 0x200D, 0x193)}
	for a, left := range typed {
		for b, right := range typed {
			if a == api.JoinT || b == api.JoinT {
				continue
			}
			joins := (a == api.JoinL || a == api.JoinD) && (b == api.JoinR || b == api.JoinD)
			for _, ahead := range far {
				for _, behind := range far {
					at := len(ahead) + 2
					x := slices.Concat(ahead, points(left, 0x257, 0x200C, 0x255, 0x255, right), behind)
					checkFits(t, d, x, at, joins)
					checkFits(t, d, slices.Concat(ahead, points(left, 0x200C, right), behind), at-1, joins)
					checkFits(t, d, slices.Concat(ahead, points(left, 0x200D, right), behind), at-1, false)
					checkFits(t, d, slices.Concat(ahead, points(viramas[a], 0x200D, right), behind), at-1, true)
					checkFits(t, d, slices.Concat(ahead, points(viramas[a], 0x200C, right), behind), at-1, true)
				}
			}
		}
	}
	home, seat := houseWorld(t), seatWorld(t)
	for k := range 30 {
		draw := rand.New(rand.NewPCG(163, uint64(k)))
		for _, w := range []*world{home, seat, drawnWorld(t, draw), drawnWorld(t, draw)} {
			for range 30 {
				w.checkNoMatter(t, draw, w.drawn(draw, 12))
			}
		}
	}
}

// All short sequences of numbers of each kind.
func TestShortSequences(t *testing.T) {
	seat := seatWorld(t)
	seat.checkShort(t, 5, 0x200C, 0x200D, 0x253, 0x255, 0x190)
	seat.checkShort(t, 5, 0x200C, 0x251, 0x252, 0x256, 0x61)
	seat.checkShort(t, 3, slices.Concat(points(0x200C, 0x200D, 0x180, 0x181, -1, 0x11200C), typed[:], viramas[:])...)
	houseWorld(t).checkShort(t, 5, 0x200C, 0x200D, 0x628, 0x64E, 0x94D)
	houseWorld(t).checkShort(t, 4, 0x200C, 0x627, 0x628, 0x94D, 0x9CD, 0x640, 0x61)
	baseWorld(t).checkShort(t, 5, 0x200C, 0x200D, 0x61, 0x94D)
}

// Every two numbers that a table tells apart, at either side of each joiner.
func TestEachBeside(t *testing.T) {
	for _, w := range []*world{houseWorld(t), seatWorld(t), baseWorld(t)} {
		for _, a := range w.all {
			for _, b := range w.all {
				w.check(t, points(a, 0x200C, b))
				w.check(t, points(a, 0x200D, b))
			}
		}
	}
}

func TestDrawn(t *testing.T) {
	home, seat := houseWorld(t), seatWorld(t)
	for k := range 150 {
		draw := rand.New(rand.NewPCG(16, uint64(k)))
		for _, w := range []*world{home, seat, drawnWorld(t, draw)} {
			w.check(t, w.all)
			for range 40 {
				w.check(t, w.drawn(draw, 20))
			}
			w.check(t, w.drawn(draw, 200))
		}
	}
}

// What is handed in is unchanged, its spare room too, and one call leaves nothing behind for the next.
func TestMemory(t *testing.T) {
	for k, w := range []*world{houseWorld(t), seatWorld(t), written(t, "200C is T", seats+"join 200C T\n")} {
		draw := rand.New(rand.NewPCG(1600, uint64(k)))
		for n := range 100 {
			room := w.drawn(draw, 40)
			kept := slices.Clone(room)
			x := room[:len(room)*(n%4)/4]
			w.check(t, x)
			joiner.Fits(w.d, x, -1)
			joiner.Fits(w.d, x, len(x))
			joiner.Fits(nil, x, 0)
			joiner.Check(nil, x)
			if !slices.Equal(room, kept) {
				t.Errorf("16: %s: what was handed in is changed: %X, was %X", w.name, room, kept)
			}
			w.check(t, x)
			// a sequence that is written over is asked anew
			for i := range room {
				room[i] = 0x200D
			}
			w.check(t, x)
		}
	}
}
