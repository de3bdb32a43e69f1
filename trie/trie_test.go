package trie_test

import (
	"math"
	"math/rand/v2"
	"slices"
	"testing"

	"endonym/api"
	"endonym/trie"
)

const (
	all   = 0x110000
	parts = 17408
)

// outside are numbers that are no code points.
var outside = []int{math.MinInt, math.MinInt + 1, math.MinInt32, -all, -65536, -64, -63, -2, -1, all, all + 1, all + 63, all + 64, 0x1FFFFF, math.MaxInt32, math.MaxUint32, math.MaxInt - 1, math.MaxInt}

func ranges(n ...int) []api.Range {
	var l []api.Range
	for i := 0; i+2 < len(n); i += 3 {
		l = append(l, api.Range{Lo: n[i], Hi: n[i+1], Value: n[i+2]})
	}
	return l
}

func build(t *testing.T, l []api.Range, def int) *trie.Trie {
	t.Helper()
	tr, at, e := trie.Build(l, def)
	if tr == nil || at != 0 || e != api.OK {
		t.Fatalf("4.1: Build of %d ranges and %d: %v, %d, %d", len(l), def, tr != nil, at, e)
	}
	return tr
}

// told is what a list says of each code point.
func told(l []api.Range, def int) []int {
	x := make([]int, all)
	for c := range x {
		x[c] = def
	}
	for _, r := range l {
		for c := r.Lo; c <= r.Hi; c++ {
			x[c] = r.Value
		}
	}
	return x
}

// numbered is 4.3 word by word: the number of each piece's block, and the blocks as they come first.
func numbered(x []int) ([]uint16, [][64]uint16) {
	var index []uint16
	var blocks [][64]uint16
	for from := 0; from < all; from += 64 {
		var b [64]uint16
		for i, value := range x[from : from+64] {
			b[i] = uint16(value)
		}
		n := slices.Index(blocks, b)
		if n < 0 {
			n = len(blocks)
			blocks = append(blocks, b)
		}
		index = append(index, uint16(n))
	}
	return index, blocks
}

// runs is 4.4 word by word: where the value changes a range ends.
func runs(x []int, def int) []api.Range {
	var l []api.Range
	for lo := 0; lo < all; {
		hi := lo
		for hi+1 < all && x[hi+1] == x[lo] {
			hi++
		}
		if x[lo] != def {
			l = append(l, api.Range{Lo: lo, Hi: hi, Value: x[lo]})
		}
		lo = hi + 1
	}
	return l
}

func blocksOf(t *testing.T, tr *trie.Trie) [][64]uint16 {
	t.Helper()
	var blocks [][64]uint16
	for i := range tr.Blocks() {
		b, ok := tr.Block(i)
		if !ok {
			t.Fatalf("4.3: Block(%d) of %d is none", i, tr.Blocks())
		}
		blocks = append(blocks, b)
	}
	return blocks
}

func checkGet(t *testing.T, tr *trie.Trie, x []int, def int) {
	t.Helper()
	for c, want := range x {
		if n := tr.Get(c); n != want {
			t.Fatalf("4.2, 4.5: Get(%X): %d, want %d", c, n, want)
		}
	}
	for _, c := range outside {
		if n := tr.Get(c); n != def {
			t.Fatalf("4.2, 4.5: Get(%d): %d, want %d", c, n, def)
		}
	}
	if n := tr.Default(); n != def {
		t.Fatalf("4.2: Default: %d, want %d", n, def)
	}
}

// checkForm is 4.3 and 4.7.
func checkForm(t *testing.T, tr *trie.Trie, x []int) {
	t.Helper()
	index, blocks := numbered(x)
	got := tr.Index()
	if len(got) != parts || !slices.Equal(got, index) {
		t.Fatalf("4.3: Index: %d pieces, %v.., want %v..", len(got), got[:min(9, len(got))], index[:9])
	}
	if tr.Blocks() != len(blocks) || !slices.Equal(blocksOf(t, tr), blocks) {
		t.Fatalf("4.3, 4.7: %d blocks, want %d", tr.Blocks(), len(blocks))
	}
	for _, i := range []int{math.MinInt, -64, -1, len(blocks), len(blocks) + 1, parts, 65536, math.MaxInt} {
		if i >= 0 && i < len(blocks) {
			continue
		}
		if b, ok := tr.Block(i); ok || b != [64]uint16{} {
			t.Fatalf("4.3: Block(%d) of %d: %v, %v", i, len(blocks), b, ok)
		}
	}
}

// check holds the trie of a list against the document's words.
func check(t *testing.T, l []api.Range, def int) *trie.Trie {
	t.Helper()
	tr := build(t, l, def)
	x := told(l, def)
	checkGet(t, tr, x, def)
	checkForm(t, tr, x)
	if got, want := tr.Ranges(), runs(x, def); !slices.Equal(got, want) {
		t.Fatalf("4.4: Ranges: %d of them, %v.., want %d, %v..", len(got), got[:min(9, len(got))], len(want), want[:min(9, len(want))])
	}
	checkAlike(t, tr, build(t, tr.Ranges(), def))
	return tr
}

func checkAlike(t *testing.T, a, b *trie.Trie) {
	t.Helper()
	if !a.Same(b) || !b.Same(a) || !a.Same(a) {
		t.Fatal("4.4, 4.5, 4.6: Same of what tells the same")
	}
	if a.Blocks() != b.Blocks() || !slices.Equal(blocksOf(t, a), blocksOf(t, b)) || !slices.Equal(a.Index(), b.Index()) || !slices.Equal(a.Ranges(), b.Ranges()) {
		t.Fatal("4.5, 4.6: tries that tell the same have unlike Index, Blocks or Ranges")
	}
}

func checkUnlike(t *testing.T, a, b *trie.Trie) {
	t.Helper()
	if a.Same(b) || b.Same(a) {
		t.Errorf("4.4: Same of %v beside %d and %v beside %d", a.Ranges(), a.Default(), b.Ranges(), b.Default())
	}
}

func TestExamples(t *testing.T) {
	tr := check(t, ranges(0, 63, 5, 64, 64, 5, 100, 200, 7), 0)
	for _, c := range [][2]int{{63, 5}, {64, 5}, {65, 0}, {-1, 0}, {1114112, 0}} {
		if n := tr.Get(c[0]); n != c[1] {
			t.Errorf("4.2: Get(%d): %d", c[0], n)
		}
	}
	index := tr.Index()
	if tr.Blocks() != 5 || !slices.Equal(index[:6], []uint16{0, 1, 2, 3, 4, 4}) || index[parts-1] != 4 {
		t.Errorf("4.3: %d blocks, %v", tr.Blocks(), index[:6])
	}
	if l := tr.Ranges(); !slices.Equal(l, ranges(0, 64, 5, 100, 200, 7)) {
		t.Errorf("4.4: Ranges: %v", l)
	}
	none := check(t, nil, 3)
	if none.Blocks() != 1 || none.Get(9) != 3 || len(none.Ranges()) != 0 {
		t.Error("4.2 to 4.4: a trie of no range")
	}
	checkAlike(t, none, check(t, []api.Range{}, 3))
}

func TestBuildRefuses(t *testing.T) {
	for _, c := range []struct {
		l   []api.Range
		def int
		at  int
		e   api.Errno
	}{
		{ranges(5, 4, 1), 0, 0, api.ErrRange},
		{ranges(all-1, 0, 1), 0, 0, api.ErrRange},
		{ranges(-1, 1, 1), 0, 0, api.ErrRange},
		{ranges(-1, -1, 1), 0, 0, api.ErrRange},
		{ranges(math.MinInt, math.MaxInt, 1), 0, 0, api.ErrRange},
		{ranges(math.MaxInt, math.MinInt, 1), 0, 0, api.ErrRange},
		{ranges(0, all, 1), 0, 0, api.ErrRange},
		{ranges(all, all, 1), 0, 0, api.ErrRange},
		{ranges(0, math.MaxInt, 1), 0, 0, api.ErrRange},
		{ranges(0, 1, 70000), 0, 0, api.ErrValue},
		{ranges(0, 1, 65536), 0, 0, api.ErrValue},
		{ranges(0, 1, 65536+5), 0, 0, api.ErrValue},
		{ranges(0, 1, -1), 0, 0, api.ErrValue},
		{ranges(0, 1, math.MinInt), 0, 0, api.ErrValue},
		{ranges(0, 1, math.MaxInt), 0, 0, api.ErrValue},
		{ranges(0, 1, 1, 1, 2, 1), 0, 1, api.ErrOrder},
		{ranges(0, 0, 1, 0, 0, 1), 0, 1, api.ErrOrder},
		{ranges(5, 9, 1, 5, 9, 1), 0, 1, api.ErrOrder},
		{ranges(5, 9, 1, 6, 7, 1), 0, 1, api.ErrOrder},
		{ranges(5, 9, 1, 1, 2, 1), 0, 1, api.ErrOrder},
		{ranges(5, 9, 1, 4, 5, 1), 0, 1, api.ErrOrder},
		{ranges(5, 9, 1, 0, all-1, 1), 0, 1, api.ErrOrder},
		{ranges(0, all-1, 1, all-1, all-1, 1), 0, 1, api.ErrOrder},
		{ranges(0, 1, 1, 2, 3, 1, 100, 200, 1, 50, 60, 1, 300, 301, 1), 0, 3, api.ErrOrder},
	} {
		checkRefused(t, c.l, c.def, c.at, c.e)
		checkRefused(t, c.l, -1, c.at, c.e)
		checkRefused(t, c.l, 65536, c.at, c.e)
	}
}

func checkRefused(t *testing.T, l []api.Range, def, at int, e api.Errno) {
	t.Helper()
	if tr, gotAt, gotE := trie.Build(l, def); tr != nil || gotAt != at || gotE != e {
		t.Errorf("4.1: Build(%v, %d): %v, %d, %d, want %d at %d", l, def, tr != nil, gotAt, gotE, e, at)
	}
}

func TestBuildRefusesTheDefaultLast(t *testing.T) {
	for _, def := range []int{-1, 65536, 65536 + 3, -65536, math.MinInt, math.MaxInt} {
		checkRefused(t, nil, def, 0, api.ErrValue)
		checkRefused(t, []api.Range{}, def, 0, api.ErrValue)
		checkRefused(t, ranges(0, 1, 1), def, 1, api.ErrValue)
		checkRefused(t, ranges(0, 1, 1, 2, 3, 1, 9, 9, 0), def, 3, api.ErrValue)
		checkRefused(t, ranges(0, all-1, 1), def, 1, api.ErrValue)
	}
}

// A range has two or three faults, or two ranges have one each.
func TestWhichFaultIsTold(t *testing.T) {
	for _, c := range []struct {
		l  []api.Range
		at int
		e  api.Errno
	}{
		{ranges(-1, 1, -1), 0, api.ErrRange},
		{ranges(5, 4, 65536), 0, api.ErrRange},
		{ranges(5, 5, 1, 4, 3, 1), 1, api.ErrRange},
		{ranges(5, 5, 1, -1, 3, -1), 1, api.ErrRange},
		{ranges(5, 5, 1, 0, all, 65536), 1, api.ErrRange},
		{ranges(5, 5, 1, 1, 1, -1), 1, api.ErrValue},
		{ranges(5, 5, 1, 5, 6, 65536), 1, api.ErrValue},
		{ranges(0, 1, -1, 5, 4, 1), 0, api.ErrValue},
		{ranges(0, 9, 1, 9, 9, 1, 5, 4, 1), 1, api.ErrOrder},
		{ranges(0, 9, 1, 9, 9, 1, 20, 20, -1), 1, api.ErrOrder},
		{ranges(5, 4, 1, 5, 4, 1), 0, api.ErrRange},
		{ranges(9, 9, 65536, 0, 0, 65536), 0, api.ErrValue},
		{ranges(0, all, 1, 0, 0, 1), 0, api.ErrRange},
		{ranges(9, 9, 1, 5, 5, 1, 4, 4, 1), 1, api.ErrOrder},
	} {
		checkRefused(t, c.l, 0, c.at, c.e)
		checkRefused(t, c.l, -1, c.at, c.e)
		ahead := append(ranges(0, 0, 1), c.l...)
		if c.l[0].Lo > 0 {
			checkRefused(t, ahead, 0, c.at+1, c.e)
		}
	}
}

// What lies ahead of and behind a fault says nothing of it: it is told at every place.
func TestFaultAtEveryPlace(t *testing.T) {
	var whole []api.Range
	for i := range 40 {
		whole = append(whole, api.Range{Lo: 100 * i, Hi: 100*i + 99, Value: i})
	}
	build(t, whole, 0)
	for i := range whole {
		for _, c := range []struct {
			spoil func(r *api.Range)
			e     api.Errno
		}{
			{func(r *api.Range) { r.Lo = -1 }, api.ErrRange},
			{func(r *api.Range) { r.Hi = all }, api.ErrRange},
			{func(r *api.Range) { r.Lo = r.Hi + 1 }, api.ErrRange},
			{func(r *api.Range) { r.Value = -1 }, api.ErrValue},
			{func(r *api.Range) { r.Value = 65536 }, api.ErrValue},
			{func(r *api.Range) { r.Lo-- }, api.ErrOrder},
		} {
			if i == 0 && c.e == api.ErrOrder {
				continue
			}
			l := slices.Clone(whole)
			c.spoil(&l[i])
			checkRefused(t, l, 0, i, c.e)
			checkRefused(t, l[:i+1], 65536, i, c.e)
		}
	}
}

func TestEdges(t *testing.T) {
	for _, c := range []struct {
		l   []api.Range
		def int
	}{
		{nil, 0},
		{nil, 65535},
		{ranges(0, all-1, 1), 0},
		{ranges(0, all-1, 65535), 0},
		{ranges(0, all-1, 0), 65535},
		{ranges(0, all-1, 0), 0},
		{ranges(0, all-1, 65535), 65535},
		{ranges(0, 0, 1), 0},
		{ranges(0, 0, 0), 1},
		{ranges(all-1, all-1, 65535), 0},
		{ranges(0, 0, 1, all-1, all-1, 1), 0},
		{ranges(0, 0, 1, 1, all-1, 2), 2},
		{ranges(0, 62, 1, 63, 63, 2, 64, 64, 3, 65, 127, 4, 128, 128, 5), 9},
		{ranges(0, 63, 1, 64, 127, 2, 128, 191, 1, 192, 255, 2), 0},
		{ranges(64, 127, 1), 0},
		{ranges(63, 128, 1), 0},
		{ranges(65, 126, 1), 0},
		{ranges(65, 126, 1, 128, 128, 1), 0},
		{ranges(63, 63, 1, 64, 64, 1), 0},
		{ranges(63, 63, 1, 65, 65, 1), 0},
		{ranges(63, 63, 1, 64, 64, 2), 0},
		{ranges(10, 20, 7, 30, 40, 1), 7},
		{ranges(10, 20, 1, 21, 29, 7, 30, 40, 1), 7},
		{ranges(10, 20, 7, 21, 29, 7, 30, 40, 7), 7},
		{ranges(10, 20, 1, 21, 21, 1, 22, 500, 1, 501, 501, 2), 0},
		{ranges(0xD7FF, 0xE000, 1, 0xFFFF, 0x10000, 2), 3},
		{ranges(all-65, all-65, 1, all-64, all-64, 2, all-1, all-1, 3), 0},
		{ranges(65534, 65535, 65534, 65536, 65536, 65535), 65535},
	} {
		check(t, c.l, c.def)
	}
}

// No two pieces are alike.
func TestMostBlocks(t *testing.T) {
	var l []api.Range
	for i := range parts {
		l = append(l, api.Range{Lo: 64*i + i%64, Hi: 64*i + i%64, Value: i + 1})
	}
	tr := build(t, l, 0)
	if tr.Blocks() != parts {
		t.Fatalf("4.3: %d blocks, want %d", tr.Blocks(), parts)
	}
	for i, n := range tr.Index() {
		if int(n) != i {
			t.Fatalf("4.3: piece %d has the block %d", i, n)
		}
		var want [64]uint16
		want[i%64] = uint16(i + 1)
		if b, ok := tr.Block(i); !ok || b != want {
			t.Fatalf("4.3: Block(%d): %v, %v", i, b, ok)
		}
	}
	checkGet(t, tr, told(l, 0), 0)
	if !slices.Equal(tr.Ranges(), l) {
		t.Error("4.4: Ranges of a list that cannot be shorter")
	}
	checkAlike(t, tr, build(t, tr.Ranges(), 0))
}

// Each code point has a range of its own, and every value comes.
func TestMostRanges(t *testing.T) {
	var l []api.Range
	for c := range all {
		l = append(l, api.Range{Lo: c, Hi: c, Value: c % 65536})
	}
	tr := check(t, l, 7)
	if tr.Blocks() != 1024 || len(tr.Ranges()) != all-17 {
		t.Errorf("4.3, 4.4: %d blocks, %d ranges", tr.Blocks(), len(tr.Ranges()))
	}
}

// drawn is a list whose ranges begin and end at and beside the edges of pieces, and its default.
func drawn(draw *rand.Rand) ([]api.Range, int) {
	values := []int{0, 1, 2, 65535, draw.IntN(65536)}
	var l []api.Range
	lo := draw.IntN(3) * draw.IntN(200)
	for range draw.IntN(60) {
		lo += draw.IntN(2) * draw.IntN(1<<draw.IntN(18))
		hi := lo + draw.IntN(1<<draw.IntN(18))
		if draw.IntN(2) == 0 {
			hi |= 63
			hi += draw.IntN(3) - 1
		}
		hi = max(lo, min(hi, all-1))
		if lo >= all {
			break
		}
		l = append(l, api.Range{Lo: lo, Hi: hi, Value: values[draw.IntN(len(values))]})
		lo = hi + 1
	}
	return l, values[draw.IntN(len(values))]
}

func TestDrawnLists(t *testing.T) {
	draw := rand.New(rand.NewPCG(4, 4))
	for range 120 {
		l, def := drawn(draw)
		check(t, l, def)
	}
}

// recut says the same by other ranges: some are cut in two, some gaps are filled with the default, some ranges of it dropped.
func recut(draw *rand.Rand, l []api.Range, def int) []api.Range {
	var cut []api.Range
	next := 0
	for _, r := range l {
		if r.Lo > next && draw.IntN(2) == 0 {
			cut = append(cut, api.Range{Lo: next, Hi: r.Lo - 1, Value: def})
		}
		next = r.Hi + 1
		if r.Value == def && draw.IntN(2) == 0 {
			continue
		}
		for r.Lo < r.Hi && draw.IntN(3) > 0 {
			middle := r.Lo + draw.IntN(r.Hi-r.Lo)
			cut = append(cut, api.Range{Lo: r.Lo, Hi: middle, Value: r.Value})
			r.Lo = middle + 1
		}
		cut = append(cut, r)
	}
	return cut
}

func TestCutsAreNotKnown(t *testing.T) {
	draw := rand.New(rand.NewPCG(6, 4))
	for range 100 {
		l, def := drawn(draw)
		a := build(t, l, def)
		checkAlike(t, a, build(t, recut(draw, l, def), def))
		checkAlike(t, a, build(t, recut(draw, a.Ranges(), def), def))
	}
	checkAlike(t, build(t, nil, 4), build(t, ranges(0, all-1, 4), 4))
	checkAlike(t, build(t, ranges(0, 127, 1), 0), build(t, ranges(0, 63, 1, 64, 127, 1, 128, all-1, 0), 0))
}

func TestNoTwoBlocksAlike(t *testing.T) {
	draw := rand.New(rand.NewPCG(7, 4))
	for range 100 {
		l, def := drawn(draw)
		tr := build(t, l, def)
		blocks := blocksOf(t, tr)
		for i, b := range blocks {
			if slices.Index(blocks, b) != i {
				t.Fatalf("4.7: block %d of %v beside %d has come before", i, l, def)
			}
		}
		uses := make([]int, len(blocks))
		for _, n := range tr.Index() {
			uses[n]++
		}
		if i := slices.Index(uses, 0); i >= 0 {
			t.Fatalf("4.7: block %d of %v beside %d is no piece's", i, l, def)
		}
	}
}

func TestSame(t *testing.T) {
	lists := []struct {
		l   []api.Range
		def int
	}{
		{nil, 0},
		{nil, 1},
		{ranges(0, all-1, 1), 0},
		{ranges(0, all-1, 1), 2},
		{ranges(0, all-1, 1), 65535},
		{ranges(0, 0, 1), 0},
		{ranges(63, 63, 1), 0},
		{ranges(64, 64, 1), 0},
		{ranges(all-1, all-1, 1), 0},
		{ranges(all-1, all-1, 2), 0},
		{ranges(64, 127, 1), 0},
		{ranges(64, 191, 1), 0},
		{ranges(64, 127, 1, 192, 255, 1), 0},
		{ranges(64, 127, 2), 0},
		{ranges(64, 127, 1, 128, 191, 2), 0},
		{ranges(64, 127, 2, 128, 191, 1), 0},
		{ranges(0, all-2, 1), 0},
		{ranges(0, 0x7FFFF, 1, 0x80001, all-1, 1), 0},
		{ranges(0, 0x7FFFF, 1, 0x80001, all-1, 1), 3},
	}
	for i, a := range lists {
		first := build(t, a.l, a.def)
		if first.Same(nil) {
			t.Errorf("4.4: Same(nil) of %v beside %d", a.l, a.def)
		}
		for j, b := range lists {
			second := build(t, b.l, b.def)
			if i == j {
				checkAlike(t, first, second)
			} else {
				checkUnlike(t, first, second)
			}
		}
	}
}

func TestOneOtherValueIsSeen(t *testing.T) {
	draw := rand.New(rand.NewPCG(9, 4))
	for range 60 {
		l, def := drawn(draw)
		a := build(t, l, def)
		x := told(l, def)
		c := []int{0, 63, 64, all - 1, draw.IntN(all)}[draw.IntN(5)]
		x[c] ^= 1 << draw.IntN(16)
		checkUnlike(t, a, build(t, runs(x, def), def))
		checkUnlike(t, a, build(t, l, def^1))
	}
}

func TestAnswersAreNewMemory(t *testing.T) {
	l := ranges(0, 63, 5, 64, 64, 5, 100, 200, 7)
	tr := build(t, l, 9)
	for range 2 {
		index := tr.Index()
		index = index[:cap(index)]
		for i := range index {
			index[i] = 3
		}
		list := tr.Ranges()
		list = list[:cap(list)]
		for i := range list {
			list[i] = api.Range{Lo: 1, Hi: 2, Value: 3}
		}
		b, _ := tr.Block(0)
		for i := range b {
			b[i] = 3
		}
	}
	if first, ok := tr.Block(0); !ok || first[0] != 5 || tr.Get(0) != 5 {
		t.Error("writing over what was told changes the trie")
	}
	checkAlike(t, tr, check(t, l, 9))
}

func TestNothingOfTheListIsKept(t *testing.T) {
	room := ranges(0, 63, 5, 64, 64, 5, 100, 200, 7, 300, 400, 8, 1, 1, -1)
	before := slices.Clone(room)
	tr := build(t, room[:3], 9)
	trie.Build(room, 9)
	if !slices.Equal(room, before) {
		t.Fatalf("Build changes what was handed in: %v", room)
	}
	for i := range room {
		room[i] = api.Range{Lo: 7, Hi: 900, Value: 1}
	}
	checkGet(t, tr, told(before[:3], 9), 9)
	checkAlike(t, tr, build(t, before[:3], 9))
}

// Asking changes nothing: what is told first is told again.
func TestToldAgain(t *testing.T) {
	l := ranges(5, 70, 1, 128, 500, 2)
	tr := build(t, l, 0)
	index, list, blocks := tr.Index(), tr.Ranges(), blocksOf(t, tr)
	tr.Same(build(t, nil, 0))
	tr.Same(nil)
	tr.Get(-1)
	tr.Block(-1)
	trie.Build(ranges(5, 4, 3), 0)
	if !slices.Equal(index, tr.Index()) || !slices.Equal(list, tr.Ranges()) || !slices.Equal(blocks, blocksOf(t, tr)) {
		t.Error("what a trie tells changes by asking")
	}
}
