package looks_test

import (
	"math/rand/v2"
	"slices"
	"testing"

	"endonym/api"
	"endonym/looks"
	"endonym/norm"
	"endonym/order"
)

// alphabets are numbers that meet one another in unlike ways.
var alphabets = []struct {
	world func(t *testing.T) *world
	all   []rune
}{
	{houseWorld, points(0x61, 0x430, 0x300, 0x323, 0xE0, 0x435, 0x308, 0x451)},
	{houseWorld, points(0x30, 0x43E, 0x3BF, 0x6F, -1, 0x44F, 0x131)},
	{houseWorld, points(0xAC00, 0xAC01, 0x1100, 0x1161, 0x11A8, 0x61)},
	{twistWorld, points(0x61, 0x62, 0x100, 0x101, 0x120, 0x300, 0x323)},
	{twistWorld, points(0x124, 0x125, 0x126, 0x300, 0x323, 0xE0, 0x110)},
	{twistWorld, points(0x105, 0x106, 0x107, 0x108, 0x61, 0x103, 0x104)},
	{twistWorld, points(0x127, 0x128, 0x129, 0x12A, 0x316, 0x334, 0x12E)},
	{twistWorld, points(0x63, 0x7E, 0x7F, 0x80, 0x81, 0x130, 0x131)},
	{twistWorld, points(0xAC00, 0x1102, 0x113, 0x115, 0x117, 0x1161, 0xB098)},
	{twistWorld, points(0, 0x61, 0xC0, 0xE0, 0xE1, 0x430, 0x10FFFF, -1)},
	{longWorld, points(0x101, 0x102, 0x104, 0x300, 0x323, 0x61, 0x62)},
	{baseWorld, points(0x61, 0x430, 0xAC00, 0x1100, 0x1161)},
}

// All short sequences of the alphabets.
func TestShort(t *testing.T) {
	t.Parallel()
	for _, a := range alphabets {
		w := a.world(t)
		eachSequence(a.all, 4, func(x []rune) { holdAll(t, w, x) })
	}
}

// Drawn sequences of drawn tables.
func TestDrawn(t *testing.T) {
	t.Parallel()
	draw := rand.New(rand.NewPCG(22, 1))
	worlds := []*world{houseWorld(t), twistWorld(t), longWorld(t), baseWorld(t)}
	for range 150 {
		worlds = append(worlds, drawnWorld(t, draw))
	}
	fakes, several, alike, unlike := 0, 0, 0, 0
	for _, w := range worlds {
		for range 150 {
			x := w.drawn(draw, 12)
			holdAll(t, w, x)
			y := w.relook(draw, x)
			want, _ := w.alike(x, y)
			checkAlike(t, w, x, y, want)
			if w.fake(x) {
				fakes++
			}
			if len(w.names(x)) > 1 {
				several++
			}
			switch {
			case !want:
				unlike++
			case !slices.Equal(x, y):
				alike++
			}
		}
	}
	if min(fakes, several, alike, unlike) < 500 {
		t.Errorf("the draws are thin: %d, %d, %d, %d", fakes, several, alike, unlike)
	}
}

// The bounds, met from both sides by drawn sequences.
func TestDrawnLong(t *testing.T) {
	t.Parallel()
	draw := rand.New(rand.NewPCG(22, 2))
	taken, refused := 0, 0
	for _, w := range []*world{houseWorld(t), twistWorld(t), longWorld(t)} {
		for range 25 {
			x := w.drawn(draw, 20)
			unit := w.all[draw.IntN(len(w.all))]
			each := max(1, len(w.seen(w.full(unit))))
			room := api.MaxPoints - len(w.seen(w.normal(x)))
			x = append(x, many(max(0, room/each-1+draw.IntN(4)), unit)...)
			want, wanted := w.skeleton(x)
			y, e := looks.Skeleton(w.d, x)
			if !slices.Equal(y, want) || e != wanted {
				t.Errorf("22.1: %s: Skeleton of %d, %X: %d, %X, %d, want %d, %X, %d", w.name, len(x), some(x), len(y), some(y), int(e), len(want), some(want), int(wanted))
			}
			if e == api.OK {
				taken++
				continue
			}
			refused++
			checkLong(t, w, x)
		}
	}
	if min(taken, refused) < 20 {
		t.Errorf("the draws are thin: %d, %d", taken, refused)
	}
}

// Alike is an equivalence: of some of each alphabet's short sequences, of each three of them.
func TestEquivalence(t *testing.T) {
	t.Parallel()
	draw := rand.New(rand.NewPCG(22, 3))
	for _, a := range alphabets {
		w := a.world(t)
		var all [][]rune
		eachSequence(a.all, 3, func(x []rune) { all = append(all, x) })
		draw.Shuffle(len(all), func(i, j int) { all[i], all[j] = all[j], all[i] })
		checkEquivalence(t, w, all[:min(len(all), 120)])
	}
	for range 40 {
		w := drawnWorld(t, draw)
		var all [][]rune
		for range 12 {
			x := w.drawn(draw, 8)
			for range 4 {
				all = append(all, x)
				x = w.relook(draw, x)
			}
		}
		checkEquivalence(t, w, all)
	}
}

func checkEquivalence(t *testing.T, w *world, all [][]rune) {
	t.Helper()
	alike := make([][]bool, len(all))
	for i, x := range all {
		alike[i] = make([]bool, len(all))
		for j, y := range all {
			ok, e := looks.Alike(w.d, x, y)
			if e != api.OK {
				t.Fatalf("22.1: %s: Alike of %X and %X: %d", w.name, x, y, int(e))
			}
			if want, _ := w.alike(x, y); ok != want {
				t.Errorf("22.1: %s: Alike of %X and %X: %v", w.name, x, y, ok)
			}
			alike[i][j] = ok
		}
		if !alike[i][i] {
			t.Errorf("22.4: %s: %X is not Alike itself", w.name, x)
		}
	}
	for i := range all {
		for j := range all {
			if alike[i][j] != alike[j][i] {
				t.Errorf("22.4: %s: Alike of %X and %X hangs on their order", w.name, all[i], all[j])
			}
			for k := range all {
				if alike[i][j] && alike[j][k] && !alike[i][k] {
					t.Errorf("22.4: %s: %X, %X and %X: Alike goes from one to the next, and not from the first to the last", w.name, all[i], all[j], all[k])
				}
			}
		}
	}
}

// Sequences that are canonically alike are Alike.
func TestCanonicallyAlike(t *testing.T) {
	t.Parallel()
	for _, a := range alphabets {
		w := a.world(t)
		ways := map[string][][]rune{}
		eachSequence(a.all, 4, func(x []rune) {
			y, _ := order.NFD(w.d, x)
			ways[string(y)] = append(ways[string(y)], x)
		})
		for _, all := range ways {
			for _, x := range all {
				checkSame(t, w, all[0], x)
			}
		}
	}
	draw := rand.New(rand.NewPCG(22, 4))
	worlds := []*world{houseWorld(t), twistWorld(t), longWorld(t), baseWorld(t)}
	for range 60 {
		worlds = append(worlds, drawnWorld(t, draw))
	}
	unlike := 0
	for _, w := range worlds {
		for range 60 {
			x := w.drawn(draw, 14)
			d, _ := order.NFD(w.d, x)
			c, _ := norm.NFC(w.d, x)
			for _, y := range [][]rune{d, c, w.swapped(draw, x), w.swapped(draw, d), slices.Concat(d[:len(d)/2], d[len(d)/2:])} {
				checkSame(t, w, x, y)
				if !slices.Equal(x, y) {
					unlike++
				}
			}
		}
	}
	if unlike < 2000 {
		t.Errorf("the draws are thin: %d", unlike)
	}
}

// checkSame is of two that order tells to be canonically alike; of others it says nothing.
func checkSame(t *testing.T, w *world, x, y []rune) {
	t.Helper()
	if same, _ := order.Same(w.d, x, y); !same {
		return
	}
	for range 2 {
		if ok, e := looks.Alike(w.d, x, y); !ok || e != api.OK {
			t.Errorf("22.4: %s: %X and %X are canonically alike, and Alike tells %v, %d", w.name, x, y, ok, int(e))
		}
		x, y = y, x
	}
}

// swapped exchanges neighbours, most of which are marks of unlike classes, so that the two are canonically alike.
func (w *world) swapped(draw *rand.Rand, x []rune) []rune {
	y := slices.Clone(x)
	for range 4 {
		if len(y) < 2 {
			break
		}
		i := draw.IntN(len(y) - 1)
		a, b := w.classes[y[i]], w.classes[y[i+1]]
		if a != b && a != 0 && b != 0 && len(w.full(y[i])) == 1 && len(w.full(y[i+1])) == 1 {
			y[i], y[i+1] = y[i+1], y[i]
		}
	}
	return y
}

// Skeletons one behind the other: 22.4's last sentence.
func TestSeams(t *testing.T) {
	t.Parallel()
	parted := 0
	for _, a := range alphabets {
		w := a.world(t)
		eachSequence(a.all, 4, func(x []rune) {
			for at := range len(x) + 1 {
				if w.seam(x[at:]) {
					checkSeam(t, w, x[:at], x[at:])
					parted++
				}
			}
		})
	}
	draw := rand.New(rand.NewPCG(22, 5))
	worlds := []*world{houseWorld(t), twistWorld(t), longWorld(t), baseWorld(t)}
	for range 100 {
		worlds = append(worlds, drawnWorld(t, draw))
	}
	for _, w := range worlds {
		for range 100 {
			x, y := w.drawn(draw, 8), w.drawn(draw, 8)
			if w.seam(y) {
				checkSeam(t, w, x, y)
				parted++
			}
		}
	}
	if parted < 20000 {
		t.Errorf("the draws are thin: %d", parted)
	}
}

func checkSeam(t *testing.T, w *world, x, y []rune) {
	t.Helper()
	whole, e := looks.Skeleton(w.d, slices.Concat(x, y))
	first, _ := looks.Skeleton(w.d, x)
	second, _ := looks.Skeleton(w.d, y)
	want, _ := order.NFD(w.d, slices.Concat(first, second))
	if !slices.Equal(whole, want) || e != api.OK {
		t.Errorf("22.4: %s: Skeleton of %X and %X, one behind the other: %X, %d, want the NFD of %X and %X, %X", w.name, x, y, whole, int(e), first, second, want)
	}
}

// The seam is asked for: where y begins with a mark the two may differ, and where x's Skeleton ends in what y's begins with
// they meet in one row, though y begins with none.
func TestWhereTheSeamIsNeeded(t *testing.T) {
	w := twistWorld(t)
	// 300 and 125, whose class is below, change places ahead of what they look like
	checkSkeleton(t, w, points(0x300, 0x125), points(0x302, 0x300))
	checkSkeleton(t, w, points(0x300), points(0x300))
	checkSkeleton(t, w, points(0x125), points(0x302))
	if w.seam(points(0x125)) {
		t.Error("125 has class 0")
	}
	// 120 looks like marks, which fall in with those ahead of it
	checkSkeleton(t, w, points(0x301, 0x120), points(0x323, 0x301, 0x300))
	checkSeam(t, w, points(0x301), points(0x120))
	checkSeam(t, w, points(0x301), nil)
	checkSeam(t, w, nil, points(0x120))
	checkSeam(t, w, nil, nil)
}
