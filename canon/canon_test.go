package canon_test

import (
	"fmt"
	"math"
	"math/rand/v2"
	"slices"
	"strings"
	"testing"

	"endonym/api"
	"endonym/canon"
	"endonym/table"
)

const base = "valid 61..7A\nvalid 30..39\nvalid 2D..2E\n"

func read(t *testing.T, s string) []api.Record {
	t.Helper()
	l, at, e := table.Parse(s)
	if e != api.OK {
		t.Fatalf("Parse of %q: %v, %v", s, at, e)
	}
	return l
}

func class(lo, hi, n int) api.Record { return api.Record{Kind: api.KClass, Lo: lo, Hi: hi, N: n} }

func opens(c rune, to ...rune) api.Record {
	return api.Record{Kind: api.KOpens, Lo: int(c), Hi: int(c), To: to}
}

func decomp(c rune, to ...rune) api.Record {
	return api.Record{Kind: api.KDecomp, Lo: int(c), Hi: int(c), To: to}
}

// syllables is the document's rule, from l, v and t on: what each syllable opens to.
var syllables = func() map[rune][]rune {
	all := map[rune][]rune{}
	at := func(l, v, t rune) rune { return 0xAC00 + (21*l+v)*28 + t }
	for l := rune(0); 0x1100+l <= 0x1112; l++ {
		for v := rune(0); 0x1161+v <= 0x1175; v++ {
			all[at(l, v, 0)] = []rune{0x1100 + l, 0x1161 + v}
			for t := rune(1); t <= 27; t++ {
				all[at(l, v, t)] = []rune{at(l, v, 0), 0x11A7 + t}
			}
		}
	}
	return all
}()

func modelJamo(c rune) byte {
	switch {
	case c >= 0x1100 && c <= 0x1112:
		return 'L'
	case c >= 0x1161 && c <= 0x1175:
		return 'V'
	case c >= 0x11A8 && c <= 0x11C2:
		return 'T'
	}
	return 0
}

// modelMade is whether the two are a jamo L and a jamo V, or a syllable with t = 0 and a jamo T.
func modelMade(a, b rune) bool {
	to := syllables[a]
	return modelJamo(a) == 'L' && modelJamo(b) == 'V' || len(to) == 2 && modelJamo(to[0]) == 'L' && modelJamo(b) == 'T'
}

// hangulEdges are the numbers on both sides of where jamo and syllables begin and end.
var hangulEdges = []rune{0x10FF, 0x1100, 0x1101, 0x1111, 0x1112, 0x1113, 0x1160, 0x1161, 0x1162, 0x1174, 0x1175, 0x1176, 0x11A7, 0x11A8, 0x11A9, 0x11C1, 0x11C2, 0x11C3, 0xABFF, 0xAC00, 0xAC01, 0xAC1B, 0xAC1C, 0xAC1D, 0xD787, 0xD788, 0xD789, 0xD7A2, 0xD7A3, 0xD7A4}

// noPoints are numbers that are no code points.
var noPoints = []rune{math.MinInt32, -0x41, -1, 0x110000, 0x110041, math.MaxInt32}

// modelFind is the first record of one of the kinds that speaks of c.
func modelFind(l []api.Record, c rune, kinds ...int) (api.Record, bool) {
	for _, r := range l {
		if slices.Contains(kinds, r.Kind) && c >= 0 && c <= 0x10FFFF && r.Lo <= int(c) && int(c) <= r.Hi {
			return r, true
		}
	}
	return api.Record{}, false
}

func modelClass(l []api.Record, c rune) int {
	r, _ := modelFind(l, c, api.KClass)
	return r.N
}

func modelOpen(l []api.Record, c rune) []rune {
	if to, ok := syllables[c]; ok {
		return to
	}
	r, _ := modelFind(l, c, api.KDecomp, api.KOpens)
	return r.To
}

func modelPrimary(l []api.Record, c rune) (rune, rune, bool) {
	if to, ok := syllables[c]; ok {
		return to[0], to[1], true
	}
	if r, ok := modelFind(l, c, api.KDecomp, api.KOpens); ok && r.Kind == api.KDecomp && len(r.To) == 2 {
		return r.To[0], r.To[1], true
	}
	return 0, 0, false
}

// modelFull is 7.2 word by word, without a call of itself: what is still to be walked, each number with the way down to it.
func modelFull(l []api.Record, c rune) ([]rune, api.Errno) {
	type stop struct {
		c   rune
		way []rune
	}
	var x []rune
	todo := []stop{{c: c}}
	for len(todo) > 0 {
		s := todo[0]
		to := modelOpen(l, s.c)
		switch {
		case len(to) == 0:
			x = append(x, s.c)
			if len(x) > 32 {
				return nil, api.ErrLong
			}
		case slices.Contains(s.way, s.c):
			return nil, api.ErrLoop
		case len(s.way) >= 16:
			return nil, api.ErrDeep
		}
		var below []stop
		for _, n := range to {
			below = append(below, stop{n, append(slices.Clone(s.way), s.c)})
		}
		todo = append(below, todo[1:]...)
	}
	return x, api.OK
}

// modelWrong is what 7.3 says of the record at i.
func modelWrong(l []api.Record, i int) api.Errno {
	r := l[i]
	if r.Kind != api.KClass && r.Kind != api.KDecomp && r.Kind != api.KOpens {
		return api.OK
	}
	if r.Lo < 0x80 {
		return api.ErrBase
	}
	for c := r.Lo; c <= min(r.Hi, 0xD7A3); c++ {
		if modelJamo(rune(c)) != 0 || syllables[rune(c)] != nil {
			return api.ErrHangul
		}
	}
	if r.Kind == api.KClass {
		return api.OK
	}
	if r.Kind == api.KDecomp && modelMade(r.To[0], r.To[1]) {
		return api.ErrHangul
	}
	x, e := modelFull(l, rune(r.Lo))
	if e != api.OK {
		return e
	}
	for j := range len(x) - 1 {
		if above, below := modelClass(l, x[j]), modelClass(l, x[j+1]); below != 0 && above > below {
			return api.ErrClass
		}
	}
	if r.Kind == api.KDecomp && modelPairFault(l, i) {
		return api.ErrPair
	}
	return api.OK
}

func modelPairFault(l []api.Record, i int) bool {
	a, b := l[i].To[0], l[i].To[1]
	if modelClass(l, rune(l[i].Lo)) != 0 || modelClass(l, a) != 0 || len(modelOpen(l, b)) != 0 || b < 0x80 || a == 0x2E {
		return true
	}
	if _, _, ok := modelPrimary(l, a); len(modelOpen(l, a)) != 0 && !ok {
		return true
	}
	return slices.ContainsFunc(l[:i], func(r api.Record) bool { return r.Kind == api.KDecomp && slices.Equal(r.To, l[i].To) })
}

func modelCheck(l []api.Record) (int, api.Errno) {
	if at, e := table.Check(l); e != api.OK {
		return at, e
	}
	for i := range l {
		if e := modelWrong(l, i); e != api.OK {
			return i, e
		}
	}
	for _, c := range "abcdefghijklmnopqrstuvwxyz0123456789-." {
		if _, ok := modelFind(l, c, api.KValid); !ok {
			return len(l), api.ErrBase
		}
	}
	return 0, api.OK
}

func checkOpening(t *testing.T, l []api.Record, c rune) {
	t.Helper()
	if got, want := canon.Class(l, c), modelClass(l, c); got != want {
		t.Fatalf("7.1: Class(%+v, %X): %d, want %d", l, c, got, want)
	}
	if got, want := canon.Open(l, c), modelOpen(l, c); !slices.Equal(got, want) {
		t.Fatalf("7.1: Open(%+v, %X): %X, want %X", l, c, got, want)
	}
	a, b, ok := canon.Primary(l, c)
	if x, y, want := modelPrimary(l, c); a != x || b != y || ok != want {
		t.Fatalf("7.1: Primary(%+v, %X): %X, %X, %v, want %X, %X, %v", l, c, a, b, ok, x, y, want)
	}
}

func checkFull(t *testing.T, l []api.Record, c rune) api.Errno {
	t.Helper()
	got, e := canon.Full(l, c)
	want, f := modelFull(l, c)
	if !slices.Equal(got, want) || e != f {
		t.Fatalf("7.2: Full(%+v, %X): %X, %v, want %X, %v", l, c, got, e, want, f)
	}
	return e
}

func checkTable(t *testing.T, l []api.Record) api.Errno {
	t.Helper()
	at, e := canon.Check(l)
	if want, f := modelCheck(l); at != want || e != f {
		t.Fatalf("7.3: Check(%+v): %d, %v, want %d, %v", l, at, e, want, f)
	}
	return e
}

func TestSyllables(t *testing.T) {
	if len(syllables) != 11172 {
		t.Fatalf("7.1: the model has %d syllables", len(syllables))
	}
	other := []api.Record{
		{Kind: api.KOpens, Lo: 0xABFF, Hi: 0xBFFF, To: []rune{0x41}},
		{Kind: api.KDecomp, Lo: 0xC000, Hi: 0xD7A4, To: []rune{0x42, 0x43}},
		class(0xAC00, 0xD7A3, 7),
	}
	for c := rune(0xABF0); c <= 0xD7B0; c++ {
		checkOpening(t, nil, c)
		checkOpening(t, other, c)
		checkFull(t, nil, c)
		checkFull(t, other, c)
	}
	for _, c := range slices.Concat(hangulEdges, noPoints) {
		checkOpening(t, nil, c)
		checkFull(t, nil, c)
		checkFull(t, other, c)
	}
	for _, c := range []struct {
		c          rune
		open, full []rune
	}{
		{0xAC00, []rune{0x1100, 0x1161}, []rune{0x1100, 0x1161}},
		{0xAC01, []rune{0xAC00, 0x11A8}, []rune{0x1100, 0x1161, 0x11A8}},
		{0xAC1B, []rune{0xAC00, 0x11C2}, []rune{0x1100, 0x1161, 0x11C2}},
		{0xAC1C, []rune{0x1100, 0x1162}, []rune{0x1100, 0x1162}},
		{0xD788, []rune{0x1112, 0x1175}, []rune{0x1112, 0x1175}},
		{0xD7A3, []rune{0xD788, 0x11C2}, []rune{0x1112, 0x1175, 0x11C2}},
		{0xABFF, nil, []rune{0xABFF}},
		{0xD7A4, nil, []rune{0xD7A4}},
		{0x1100, nil, []rune{0x1100}},
	} {
		open := canon.Open(nil, c.c)
		full, e := canon.Full(nil, c.c)
		_, _, ok := canon.Primary(nil, c.c)
		if !slices.Equal(open, c.open) || !slices.Equal(full, c.full) || e != api.OK || ok != (c.open != nil) {
			t.Errorf("7.1, 7.2: of %X: Open %X, Full %X, %v, Primary %v", c.c, open, full, e, ok)
		}
	}
}

func TestOpeningExamples(t *testing.T) {
	l := read(t, base+"decomp C0 41 300\nopens 212B C5\nopens 344 308 301\nclass 300..314 230\nclass 345 1\nmapped C1 61 62\nlooks C2 43 44")
	for _, c := range []struct {
		c     rune
		class int
		open  []rune
		ok    bool
	}{
		{0xC0, 0, []rune{0x41, 0x300}, true}, {0x212B, 0, []rune{0xC5}, false}, {0x344, 0, []rune{0x308, 0x301}, false},
		{0x2FF, 0, nil, false}, {0x300, 230, nil, false}, {0x314, 230, nil, false}, {0x315, 0, nil, false}, {0x345, 1, nil, false},
		{0xC1, 0, nil, false}, {0xC2, 0, nil, false}, {0x61, 0, nil, false}, {-1, 0, nil, false}, {0x110000, 0, nil, false},
	} {
		n, open := canon.Class(l, c.c), canon.Open(l, c.c)
		a, b, ok := canon.Primary(l, c.c)
		if n != c.class || !slices.Equal(open, c.open) || ok != c.ok || ok && !slices.Equal([]rune{a, b}, c.open) || !ok && (a != 0 || b != 0) {
			t.Errorf("7.1: of %X: Class %d, Open %X, Primary %X, %X, %v", c.c, n, open, a, b, ok)
		}
	}
}

// drawnLoose is a record that need not be right, of few numbers.
func drawnLoose(r *rand.Rand) api.Record {
	kinds := []int{-1, 0, api.KValid, api.KMapped, api.KShift, api.KClass, api.KClass, api.KClass, api.KDecomp, api.KDecomp, api.KDecomp, api.KOpens, api.KOpens, api.KOpens, api.KBidi, api.KLooks, api.KMix, 16}
	lo := r.IntN(12) - 4
	x := api.Record{Kind: kinds[r.IntN(len(kinds))], Lo: lo, Hi: lo + r.IntN(4) - 1, N: r.IntN(600) - 300}
	if r.IntN(8) == 0 {
		x.Lo, x.Hi = x.Lo+0x10FFFE, x.Hi+0x10FFFE
	}
	for range r.IntN(5) {
		x.To = append(x.To, rune(r.IntN(12)-4))
	}
	return x
}

func TestOpeningOfWhatIsNotRight(t *testing.T) {
	three := []rune{0x41, 0x42, 0x43}
	for n := range 4 {
		for _, kind := range []int{api.KDecomp, api.KOpens} {
			l := []api.Record{{Kind: kind, Lo: 0xC0, Hi: 0xC0, To: three[:n]}}
			_, _, ok := canon.Primary(l, 0xC0)
			if open := canon.Open(l, 0xC0); !slices.Equal(open, three[:n]) || ok != (kind == api.KDecomp && n == 2) {
				t.Errorf("7.1: of a kind %d with %d numbers: Open %X, Primary %v", kind, n, open, ok)
			}
		}
	}
	for _, c := range []struct {
		name string
		l    []api.Record
		n    int
		open []rune
		ok   bool
	}{
		{"two classes", []api.Record{class(0xC0, 0xC0, -3), class(0xC0, 0xC0, 9)}, -3, nil, false},
		{"opens ahead of decomp", []api.Record{opens(0xC0, 1, 2), decomp(0xC0, 3, 4)}, 0, []rune{1, 2}, false},
		{"decomp ahead of opens", []api.Record{decomp(0xC0, 3, 4), opens(0xC0, 1, 2)}, 0, []rune{3, 4}, true},
		{"a decomp of none ahead of one of two", []api.Record{decomp(0xC0), decomp(0xC0, 3, 4)}, 0, nil, false},
		{"a decomp that speaks of none", []api.Record{{Kind: api.KDecomp, Lo: 0xC1, Hi: 0xBF, To: three[:2]}, class(0xC1, 0xBF, 1)}, 0, nil, false},
		{"spans", []api.Record{{Kind: api.KDecomp, Lo: math.MinInt, Hi: math.MaxInt, To: three[:2]}, class(math.MinInt, math.MaxInt, 999)}, 999, three[:2], true},
		{"another's Weight and Name", []api.Record{{Kind: api.KDecomp, Lo: 0xC0, Hi: 0xC0, To: three[:2], N: 5, Name: "x", Weight: math.NaN()}}, 0, three[:2], true},
		{"other kinds", []api.Record{{Kind: api.KMapped, Lo: 0xC0, Hi: 0xC0, To: three[:2], N: 5}, {Kind: 16, Lo: 0xC0, Hi: 0xC0, To: three[:2], N: 5}, {Kind: api.KMix, Lo: 0xC0, Hi: 0xC0, To: three[:2], N: 5}, {Lo: 0xC0, Hi: 0xC0, To: three[:2], N: 5}}, 0, nil, false},
	} {
		_, _, ok := canon.Primary(c.l, 0xC0)
		if n, open := canon.Class(c.l, 0xC0), canon.Open(c.l, 0xC0); n != c.n || !slices.Equal(open, c.open) || ok != c.ok {
			t.Errorf("7.1: of %s: Class %d, Open %X, Primary %v", c.name, n, open, ok)
		}
		for _, n := range noPoints {
			checkOpening(t, c.l, n)
			if canon.Class(c.l, n) != 0 || len(canon.Open(c.l, n)) > 0 {
				t.Errorf("7.1: of %s: %X has a class or opens", c.name, n)
			}
		}
	}
	r := rand.New(rand.NewPCG(7, 1))
	for range 4000 {
		var l []api.Record
		for range r.IntN(9) {
			l = append(l, drawnLoose(r))
		}
		for c := rune(-5); c < 12; c++ {
			checkOpening(t, l, c)
			checkOpening(t, l, c+0x10FFFE)
		}
	}
}

// chain is n records, each opening to the next number, from 2000 on.
func chain(n int) []api.Record {
	var l []api.Record
	for i := range rune(n) {
		l = append(l, opens(0x2000+i, 0x2001+i))
	}
	return l
}

// tree is n records, each opening to the next number twice.
func tree(n int) []api.Record {
	l := chain(n)
	for i := range l {
		l[i].To = append(l[i].To, l[i].To[0])
	}
	return l
}

// leaves are n numbers that open to none.
func leaves(n int) []rune { return slices.Repeat([]rune{0x41}, n) }

// ring is a chain of n whose last one opens to the first.
func ring(n int) []api.Record {
	l := chain(n)
	l[n-1].To[0] = 0x2000
	return l
}

// then is a chain of n whose last one opens to what is said.
func then(n int, to ...rune) []api.Record {
	l := chain(n)
	l[n-1].To = to
	return l
}

func TestFullExamples(t *testing.T) {
	l := read(t, base+"decomp 1EA6 C2 300\ndecomp C2 41 302\nopens 212B C5\ndecomp C5 41 30A\nopens 340 300\nopens 344 308 301\nmapped 41 61\nclass 300..314 230")
	for c, want := range map[rune][]rune{
		0x1EA6: {0x41, 0x302, 0x300}, 0xC2: {0x41, 0x302}, 0x212B: {0x41, 0x30A}, 0x340: {0x300}, 0x344: {0x308, 0x301}, 0x41: {0x41},
		0: {0}, 0x10FFFF: {0x10FFFF}, 0xD800: {0xD800}, -5: {-5}, 0x110000: {0x110000}, math.MinInt32: {math.MinInt32}, math.MaxInt32: {math.MaxInt32},
		0xAC01: {0x1100, 0x1161, 0x11A8}, 0xD7A3: {0x1112, 0x1175, 0x11C2},
	} {
		for _, l := range [][]api.Record{l, slices.Concat(nil, l, l)} {
			if x, e := canon.Full(l, c); !slices.Equal(x, want) || e != api.OK {
				t.Errorf("7.2: Full(%X): %X, %v", c, x, e)
			}
		}
	}
}

func TestFullEdges(t *testing.T) {
	const c = 0x2000
	top := func(to ...rune) api.Record { return opens(0x3000, to...) } // of which a chain may stand below
	for _, x := range []struct {
		name string
		l    []api.Record
		c    rune
		n    int // how many numbers come
		e    api.Errno
	}{
		{"none", []api.Record{opens(c)}, c, 1, api.OK},
		{"itself", []api.Record{opens(c, c)}, c, 0, api.ErrLoop},
		{"itself behind another", []api.Record{decomp(c, 0x41, c)}, c, 0, api.ErrLoop},
		{"the one above", []api.Record{opens(c, 0x41, c+1), opens(c+1, 0x42, c)}, c, 0, api.ErrLoop},
		{"a ring below", slices.Concat([]api.Record{top(c)}, ring(3)), 0x3000, 0, api.ErrLoop},
		{"a ring beside", slices.Concat([]api.Record{opens(0x3000, 0x41)}, ring(3)), 0x3000, 1, api.OK},
		{"one number twice, not above itself", []api.Record{opens(c, c+1, c+2, c+1), opens(c+1, 0x41), opens(c+2, c+1, c+1)}, c, 4, api.OK},
		{"a way of 15", chain(15), c, 1, api.OK},
		{"a way of 16", chain(16), c, 1, api.OK},
		{"a way of 17", chain(17), c, 0, api.ErrDeep},
		{"a way of 17 from below its top", chain(17), c + 1, 1, api.OK},
		{"a way of 4000", chain(4000), c, 0, api.ErrDeep},
		{"a ring of 15", ring(15), c, 0, api.ErrLoop},
		{"a ring of 16: both a loop and too deep", ring(16), c, 0, api.ErrLoop},
		{"a ring of 17", ring(17), c, 0, api.ErrDeep},
		{"a way of 14 to a syllable of three", then(14, 0xAC01), c, 3, api.OK},
		{"a way of 15 to a syllable of three", then(15, 0xAC01), c, 0, api.ErrDeep},
		{"a way of 15 to a syllable of two", then(15, 0xAC00), c, 2, api.OK},
		{"a way of 16 to a syllable of two", then(16, 0xAC00), c, 0, api.ErrDeep},
		{"a jamo that opens to its syllable", []api.Record{opens(0x1100, 0xAC00)}, 0xAC00, 0, api.ErrLoop},
		{"a tail that opens to its syllable", []api.Record{opens(0x11A8, 0xAC01)}, 0xAC01, 0, api.ErrLoop},
		{"a syllable of which a record says itself", []api.Record{opens(0xAC00, 0xAC00)}, 0xAC00, 2, api.OK},
		{"32 numbers", []api.Record{opens(c, leaves(32)...)}, c, 32, api.OK},
		{"33 numbers", []api.Record{opens(c, leaves(33)...)}, c, 0, api.ErrLong},
		{"300,000 numbers", []api.Record{opens(c, leaves(300000)...)}, c, 0, api.ErrLong},
		{"a tree of 32", tree(5), c, 32, api.OK},
		{"a tree of 64", tree(6), c, 0, api.ErrLong},
		{"a tree of 16 steps", tree(16), c, 0, api.ErrLong},
		{"a tree of 17 steps", tree(17), c, 0, api.ErrDeep},
		{"16 steps and 32 numbers", then(16, leaves(32)...), c, 32, api.OK},
		{"16 steps and 33 numbers", then(16, leaves(33)...), c, 0, api.ErrLong},
		{"17 steps and 33 numbers", then(17, leaves(33)...), c, 0, api.ErrDeep},
		{"a loop behind 32 numbers", []api.Record{opens(c, append(leaves(32), c)...)}, c, 0, api.ErrLoop},
		{"a loop behind 33 numbers", []api.Record{opens(c, append(leaves(33), c)...)}, c, 0, api.ErrLong},
		{"a loop ahead of 33 numbers", []api.Record{opens(c, append([]rune{c}, leaves(33)...)...)}, c, 0, api.ErrLoop},
		{"too deep behind 32 numbers", append(chain(17), top(append(leaves(32), c)...)), 0x3000, 0, api.ErrDeep},
		{"too deep behind 33 numbers", append(chain(17), top(append(leaves(33), c)...)), 0x3000, 0, api.ErrLong},
		{"too deep ahead of 33 numbers", append(chain(17), top(append([]rune{c}, leaves(33)...)...)), 0x3000, 0, api.ErrDeep},
		{"too deep ahead of a loop", append(chain(17), top(c, 0x3000)), 0x3000, 0, api.ErrDeep},
		{"a loop ahead of too deep", append(chain(17), top(0x3000, c)), 0x3000, 0, api.ErrLoop},
		{"16 steps below the top, and back to 2 steps", append(chain(15), top(c, c+13)), 0x3000, 2, api.OK},
		{"no code points", []api.Record{opens(c, -1, 0x110000, math.MaxInt32, 0xD800)}, c, 4, api.OK},
		{"numbers of 31 and a syllable of two", []api.Record{opens(c, append(leaves(31), 0xAC00)...)}, c, 0, api.ErrLong},
		{"numbers of 30 and a syllable of two", []api.Record{opens(c, append(leaves(30), 0xAC00)...)}, c, 32, api.OK},
	} {
		if got, e := canon.Full(x.l, x.c); len(got) != x.n || e != x.e {
			t.Errorf("7.2: Full of %s: %X, %v", x.name, got, e)
		}
		checkFull(t, x.l, x.c)
	}
}

func TestFullOfAll(t *testing.T) {
	r := rand.New(rand.NewPCG(7, 2))
	met := map[api.Errno]int{}
	for range 10000 {
		size, wide, rare := 2+r.IntN(40), 1+r.IntN(4), 1+r.IntN(60)
		var l []api.Record
		for c := range size {
			x := opens(rune(c))
			for range r.IntN(1 + wide) {
				next := c + 1 + r.IntN(wide)
				if r.IntN(rare) == 0 {
					next = c - r.IntN(3)
				}
				x.To = append(x.To, rune(next))
			}
			if len(x.To) == 0 && r.IntN(4) > 0 {
				x.To = []rune{rune(c + 1)}
			}
			if r.IntN(20) == 0 {
				x.Hi += r.IntN(5)
			}
			l = append(l, x)
		}
		for range 3 {
			met[checkFull(t, l, rune(r.IntN(4)))]++
		}
		slices.SortFunc(l, func(a, b api.Record) int { return b.Lo - a.Lo })
		checkFull(t, l, 0)
	}
	for _, e := range []api.Errno{api.OK, api.ErrLoop, api.ErrDeep, api.ErrLong} {
		if met[e] < 300 {
			t.Errorf("7.2: %d was drawn %d times alone: %d", e, met[e], met)
		}
	}
}

func TestCheckExamples(t *testing.T) {
	for _, c := range []struct {
		s  string
		at int
		e  api.Errno
	}{
		{base, 0, api.OK},
		{base + "decomp C0 41 300\nclass 300 230", 0, api.OK},
		{base + "decomp 1EA6 C2 300\ndecomp C2 41 302\nclass 300..302 230", 0, api.OK},
		{base + "opens C0 C1\nopens C1 C0", 3, api.ErrLoop},
		{base + "decomp C0 41 300\ndecomp C1 41 300", 4, api.ErrPair},
		{base + "decomp C0 41 61", 3, api.ErrPair},
		{base + "class 41 1", 3, api.ErrBase},
		{base + "class 1100 1", 3, api.ErrHangul},
		{base + "opens AC00 41", 3, api.ErrHangul},
		{"valid 61..7A", 1, api.ErrBase},
		{"", 0, api.ErrBase},
		{"valid 0..10FFFF", 0, api.OK},
		{"ignored 0..10FFFF", 1, api.ErrBase},
	} {
		l := read(t, c.s)
		if at, e := canon.Check(l); at != c.at || e != c.e {
			t.Errorf("7.3: Check of %q: %d, %v, want %d, %v", c.s, at, e, c.at, c.e)
		}
		checkTable(t, l)
	}
	if at, e := canon.Check(nil); at != 0 || e != api.ErrBase {
		t.Errorf("7.3: Check of none: %d, %v", at, e)
	}
}

// faults are records with which something is wrong among others that are right, each error in all the ways to it alone.
var faults = []struct {
	fault, others string
	e             api.Errno
}{
	{"class 0 1", "", api.ErrBase},
	{"class 7F 1", "", api.ErrBase},
	{"class 7F..80 1", "", api.ErrBase},
	{"class 41..1100 1", "", api.ErrBase}, // ErrHangul too
	{"class 0..10FFFF 1", "", api.ErrBase},
	{"opens 7F 100", "", api.ErrBase},
	{"opens 41 41", "", api.ErrBase}, // ErrLoop too
	{"decomp 41 1100 1161", "", api.ErrBase},
	{"decomp 41 2E 42", "", api.ErrBase},
	{"class 80..1100 1", "", api.ErrHangul},
	{"class 1112..1113 1", "", api.ErrHangul},
	{"class 1160..1161 1", "", api.ErrHangul},
	{"class 1175..1176 1", "", api.ErrHangul},
	{"class 11A7..11A8 1", "", api.ErrHangul},
	{"class 11C2..11C3 1", "", api.ErrHangul},
	{"class ABFF..AC00 1", "", api.ErrHangul},
	{"class D7A3..D7A4 1", "", api.ErrHangul},
	{"class 80..10FFFF 1", "", api.ErrHangul},
	{"class B000..B001 1", "", api.ErrHangul},
	{"opens 1100 1100", "", api.ErrHangul}, // ErrLoop too
	{"opens 1175 C0", "", api.ErrHangul},
	{"decomp 11C2 C0 300", "", api.ErrHangul},
	{"decomp AC00 1100 1161", "", api.ErrHangul}, // what it opens to is no other thing, and yet
	{"decomp D7A3 41 41", "", api.ErrHangul},
	{"decomp C0 1100 1161", "", api.ErrHangul},
	{"decomp C0 1112 1175", "", api.ErrHangul},
	{"decomp C0 AC00 11A8", "", api.ErrHangul},
	{"decomp C0 D788 11C2", "", api.ErrHangul},
	{"decomp C0 AC1C 11C2", "class C0 1", api.ErrHangul}, // ErrPair too
	{"opens C0 C0", "", api.ErrLoop},
	{"decomp C0 C0 300", "", api.ErrLoop},
	{"decomp C0 C0 41", "class C0 1", api.ErrLoop}, // ErrPair too
	{"decomp C0 41 C0", "", api.ErrLoop},
	{"class 1000..2000 1", "opens C1 41", api.ErrHangul},
	{"opens 340 300 301", "class 300 230\nclass 301 220", api.ErrClass},
	{"opens 340 300 301", "class 300 2\nclass 301 1", api.ErrClass},
	{"opens 340 C1 301", "opens C1 41 300\nclass 300 230\nclass 301 220", api.ErrClass},
	{"opens 340 41 C1", "opens C1 300 301\nclass 300..301 230\nclass 41E 1\nclass C1 9", api.OK},
	{"decomp 340 C1 301", "decomp C1 41 300\nclass 300 230\nclass 301 220", api.ErrClass},
	{"decomp 340 300 301", "class 300 230\nclass 301 220", api.ErrClass}, // ErrPair too
	{"decomp C0 41 300", "class C0 1", api.ErrPair},
	{"decomp C0 41 300", "class BF..C1 254", api.ErrPair},
	{"decomp C0 300 301", "class 300 230", api.ErrPair},
	{"decomp C0 300 301", "class 300..301 230", api.ErrPair},
	{"decomp C0 41 300", "opens 300 301", api.ErrPair},
	{"decomp C0 41 C1", "decomp C1 42 300", api.ErrPair},
	{"decomp C0 41 AC00", "", api.ErrPair},
	{"decomp C0 41 D7A3", "", api.ErrPair},
	{"decomp C0 C1 300", "opens C1 41", api.ErrPair},
	{"decomp C0 C1 300", "opens C1 41 301", api.ErrPair},
	{"decomp C0 41 7F", "", api.ErrPair},
	{"decomp C0 41 0", "", api.ErrPair},
	{"decomp C0 41 2E", "", api.ErrPair},
	{"decomp C0 2E 300", "", api.ErrPair},
	{"decomp C0 2E 41", "", api.ErrPair},
}

// fine are records that are right beside each other: what stands on the other side of an edge.
var fine = []string{
	"class 80 1", "class 80..10FF 254", "class 1113..1160 1", "class 1176..11A7 1", "class 11C3..ABFF 1", "class D7A4..10FFFF 1",
	"opens 80 41", "opens 10FF 1100 1161", "opens 1113 1161", "opens 1160 AC00", "opens 1176 AC01 11A8", "opens 11A7 41", "opens 11C3 41", "opens ABFF AC00 11A8", "opens D7A4 D7A3", "opens 10FFFF 0 7F",
	"decomp C0 41 300", "decomp C0 41 80", "decomp C0 2D 300", "decomp C0 2F 300", "decomp C0 0 10FFFF", "decomp C0 C1 300\ndecomp C1 C2 300\ndecomp C2 41 300",
	"decomp C0 AC00 300", "decomp C0 AC01 11A8", "decomp C0 AC01 300", "decomp C0 D7A3 11C2", "decomp C0 AC00 11A7", "decomp C0 AC00 11C3", "decomp C0 AC00 1161", "decomp C0 ABFF 11A8", "decomp C0 D7A4 11A8",
	"decomp C0 10FF 1161", "decomp C0 1113 1161", "decomp C0 1100 1160", "decomp C0 1100 1176", "decomp C0 1100 11A8", "decomp C0 1161 1100", "decomp C0 1161 11A8",
	"decomp C0 41 300\ndecomp C1 41 301\ndecomp C2 42 300\ndecomp C3 300 41F\ndecomp C4 41F 300",
	"decomp C0 41 300\nopens C1 41 300", "opens C1 41 300\ndecomp C0 41 300\nopens C2 41 300\nopens C3 C0",
	"opens C0 300 301\nclass 300..301 230", "opens C0 300 301\nclass 300 1\nclass 301 254", "opens C0 300 301\nclass 300 230", "opens C0 300 301\nclass 301 230",
	"opens C0 C1 302\nopens C1 300 301\nclass 300 230\nclass 302 220", "opens C0 300\nclass 300 230\nclass C0 1", "opens C0 300 300\nclass 300 230",
	"decomp C0 41 300\nclass 300 230\nopens C1 C0 301\nclass 301 240",
	"mapped 41 C0\nbidi 0..10FFFF L\njoin 0..10FFFF U\nmark 1100..1112\nscript AC00..D7A3 Hang\nlooks AC00 41\nweight 0..10FFFF 1\nmix Latn Cyrl 1\nvalid 1100..1175\nshift 11A8..11C2 41 1",
}

func TestCheckOfEachFault(t *testing.T) {
	for _, c := range faults {
		basis, others, fault := read(t, base), read(t, c.others), read(t, c.fault)
		for _, l := range [][]api.Record{slices.Concat(fault, others, basis), slices.Concat(fault, basis, others), slices.Concat(basis, fault, others), slices.Concat(others, fault, basis), slices.Concat(basis, others, fault)} {
			want := slices.IndexFunc(l, func(r api.Record) bool { return table.Same([]api.Record{r}, fault) })
			if c.e == api.OK {
				want = 0
			}
			if at, e := canon.Check(l); at != want || e != c.e {
				t.Errorf("7.3: Check of %q beside %q, at %d: %d, %v, want %v", c.fault, c.others, want, at, e, c.e)
			}
			checkTable(t, l)
		}
		if c.e == api.OK {
			continue
		}
		if at, e := canon.Check(slices.Concat(basis, others)); at != 0 || e != api.OK {
			t.Errorf("7.3: Check of %q, without its fault: %d, %v", c.others, at, e)
		}
		if at, e := canon.Check(fault); c.others == "" && (at != 0 || e != c.e) {
			t.Errorf("7.3: Check of %q without a base: %d, %v", c.fault, at, e)
		}
	}
}

func TestCheckOfWhatIsRight(t *testing.T) {
	for _, s := range fine {
		for _, text := range []string{base + s, s + "\n" + base} {
			if at, e := canon.Check(read(t, text)); at != 0 || e != api.OK {
				t.Errorf("7.3: Check of %q: %d, %v", s, at, e)
			}
		}
		checkTable(t, read(t, base+s))
	}
}

func TestCheckOfOneToTwice(t *testing.T) {
	basis, a, b, beside := read(t, base), decomp(0xC0, 0x41, 0x300), decomp(0xC1, 0x41, 0x300), opens(0xC2, 0x41, 0x300)
	for _, c := range []struct {
		l  []api.Record
		at int
		e  api.Errno
	}{
		{slices.Concat([]api.Record{a, b}, basis), 1, api.ErrPair},
		{slices.Concat([]api.Record{b, a}, basis), 1, api.ErrPair},
		{slices.Concat([]api.Record{a}, basis, []api.Record{b}), 4, api.ErrPair},
		{slices.Concat([]api.Record{a, beside, b}, basis), 2, api.ErrPair},
		{slices.Concat([]api.Record{beside, a}, basis), 0, api.OK},
		{slices.Concat([]api.Record{a, beside}, basis), 0, api.OK},
		{slices.Concat([]api.Record{a, b, decomp(0xC3, 0x41, 0x300)}, basis), 1, api.ErrPair},
		{slices.Concat([]api.Record{a, opens(0xC4, 0xC4), b}, basis), 1, api.ErrLoop},
	} {
		if at, e := canon.Check(c.l); at != c.at || e != c.e {
			t.Errorf("7.3: Check of %+v: %d, %v, want %d, %v", c.l, at, e, c.at, c.e)
		}
		checkTable(t, c.l)
	}
}

// TestCheckOfFullFaults: Full's errors, where no record but the first one of the way has them.
func TestCheckOfFullFaults(t *testing.T) {
	basis := read(t, base)
	for _, c := range []struct {
		l    []api.Record
		back int // the place, if the list is turned round and stands behind the base
		e    api.Errno
	}{
		{chain(16), 0, api.OK}, {chain(17), 3 + 16, api.ErrDeep}, {chain(30), 3 + 16, api.ErrDeep},
		{tree(5), 0, api.OK}, {tree(6), 3 + 5, api.ErrLong},
		{ring(2), 3, api.ErrLoop}, {ring(16), 3, api.ErrLoop}, {ring(17), 3, api.ErrDeep},
		{then(16, 0xAC00), 3 + 15, api.ErrDeep}, {then(15, 0xAC00), 0, api.OK}, {then(15, 0xAC01), 3 + 14, api.ErrDeep}, {then(14, 0xAC01), 0, api.OK},
	} {
		back := slices.Clone(c.l)
		slices.Reverse(back)
		for _, l := range [][]api.Record{c.l, back} {
			for ahead := range len(basis) + 1 {
				checkTable(t, slices.Concat(basis[:ahead], l, basis[ahead:]))
			}
		}
		if at, e := canon.Check(slices.Concat(c.l, basis)); at != 0 || e != c.e {
			t.Errorf("7.3: Check of %d records of a way: %d, %v, want %v", len(c.l), at, e, c.e)
		}
		if at, e := canon.Check(slices.Concat(basis, back)); at != c.back || e != c.e {
			t.Errorf("7.3: Check of %d records of a way, turned round: %d, %v, want %d, %v", len(c.l), at, e, c.back, c.e)
		}
	}
}

func TestCheckOrder(t *testing.T) {
	for _, c := range []struct {
		s  string
		at int
		e  api.Errno
	}{
		{"class 41 1\n" + base + "valid 61", 4, api.ErrTwice},
		{"class 41 1\nclass 41 2", 1, api.ErrTwice},
		{"opens C0 C0\ndecomp C0 41 300", 1, api.ErrTwice},
		{base + "class 1100 1\nclass 41 1", 3, api.ErrHangul},
		{base + "class 41 1\nclass 1100 1", 3, api.ErrBase},
		{base + "decomp C0 41 61\nopens C1 C1", 3, api.ErrPair},
		{base + "opens C1 C1\ndecomp C0 41 61", 3, api.ErrLoop},
		{base + "opens C0 1100\nopens 1100 C0", 3, api.ErrLoop},
		{base + "opens 1100 C0\nopens C0 1100", 3, api.ErrHangul},
		{base + "decomp C0 1100 1161\nopens 1100 C0", 3, api.ErrHangul},
		{"decomp C0 41 61\nvalid 61..7A", 0, api.ErrPair},
		{"valid 61..7A\ndecomp C0 41 61", 1, api.ErrPair},
		{"valid 61..7A\ndecomp C0 41 300", 2, api.ErrBase},
		{base + "opens C0 300 301\nclass 300 3\nclass 301 2\nopens C1 C1", 3, api.ErrClass},
		{base + "opens C1 C1\nopens C0 300 301\nclass 300 3\nclass 301 2", 3, api.ErrLoop},
		{base + "opens C0 300 C1\nopens C1 301 C1\nclass 300 3\nclass 301 2", 3, api.ErrLoop},
	} {
		l := read(t, c.s)
		if at, e := canon.Check(l); at != c.at || e != c.e {
			t.Errorf("7.3: Check of %q: %d, %v, want %d, %v", c.s, at, e, c.at, c.e)
		}
		checkTable(t, l)
	}
}

func TestCheckOfWhatTableRefuses(t *testing.T) {
	basis := read(t, base)
	for _, r := range []api.Record{
		{}, {Kind: 16}, {Kind: api.KDecomp, Lo: 0xC0, Hi: 0xC0}, decomp(0xC0, 0x41), decomp(0xC0, 1, 2, 3), opens(0xC0), opens(0xC0, 1, 2, 3), opens(0xC0, 0xD800), opens(0xD800, 1), opens(-1, 1), opens(0x110000, 1),
		class(0xC0, 0xBF, 1), class(0xC0, 0x110000, 1), class(-1, 0xC0, 1), class(0xC0, 0xC0, 0), class(0xC0, 0xC0, 255), {Kind: api.KDecomp, Lo: 0xC0, Hi: 0xC1, To: []rune{0x41, 0x300}}, {Kind: api.KMix, Name: "Latn", Other: "Latn"},
		{Kind: api.KClass, Lo: math.MinInt, Hi: math.MaxInt, N: 1}, {Kind: api.KWeight, Lo: 1, Hi: 1, Weight: math.NaN()},
	} {
		for at := range len(basis) + 1 {
			l := slices.Insert(slices.Clone(basis), at, r)
			l = append(l, opens(0xC5, 0xC5))
			want := table.Right(r)
			if got, e := canon.Check(l); got != at || e != want || e == api.OK {
				t.Errorf("7.3: Check with %+v at %d: %d, %v", r, at, got, e)
			}
		}
	}
	for n, want := range map[int]api.Errno{4093: api.OK, 4094: api.ErrMany} {
		l := slices.Clone(basis)
		for i := range n {
			l = append(l, class(0x3000+i, 0x3000+i, 1))
		}
		if at, e := canon.Check(l); at != 0 || e != want {
			t.Errorf("7.3: Check of %d records: %d, %v", len(l), at, e)
		}
	}
	many := slices.Repeat([]api.Record{{Kind: -1}}, 4097)
	if at, e := canon.Check(many); at != 0 || e != api.ErrMany {
		t.Errorf("7.3: Check of 4097 wrong records: %d, %v", at, e)
	}
}

func TestCheckOfSpans(t *testing.T) {
	basis := read(t, base)
	edges := append([]rune{0, 1, 0x2D, 0x61, 0x7E, 0x7F, 0x80, 0x81, 0x300, 0x2000, 0xD800, 0xDFFF, 0xE000, 0x10FFFE, 0x10FFFF}, hangulEdges...)
	met := map[api.Errno]int{}
	for _, lo := range edges {
		for _, hi := range edges {
			if lo <= hi {
				met[checkTable(t, slices.Concat(basis, []api.Record{class(int(lo), int(hi), 5)}))]++
				checkTable(t, slices.Concat(basis, []api.Record{{Kind: api.KMark, Lo: int(lo), Hi: int(hi)}}))
			}
		}
		checkTable(t, slices.Concat(basis, []api.Record{opens(lo, 0x3000)}))
		checkTable(t, slices.Concat(basis, []api.Record{opens(lo, 0x3000, 0x3001)}))
		checkTable(t, slices.Concat(basis, []api.Record{decomp(lo, 0x3000, 0x3001)}))
	}
	if met[api.OK] < 40 || met[api.ErrBase] < 100 || met[api.ErrHangul] < 100 {
		t.Errorf("7.3: of spans: %v", met)
	}
}

func TestCheckOfPairs(t *testing.T) {
	basis := read(t, base)
	edges := append([]rune{0, 0x2D, 0x2E, 0x2F, 0x7F, 0x80, 0xFF, 0xBFF0}, hangulEdges...)
	met := map[api.Errno]int{}
	for _, a := range edges {
		for _, b := range edges {
			met[checkTable(t, slices.Concat(basis, []api.Record{decomp(0xC0, a, b)}))]++
			if e := checkTable(t, slices.Concat(basis, []api.Record{opens(0xC0, a, b)})); e != api.OK {
				t.Fatalf("7.3: Check of opens C0 %X %X: %v", a, b, e)
			}
		}
	}
	if met[api.OK] < 200 || met[api.ErrPair] < 100 || met[api.ErrHangul] < 20 {
		t.Errorf("7.3: of pairs: %v", met)
	}
}

func TestCheckOfTheBase(t *testing.T) {
	const all = "abcdefghijklmnopqrstuvwxyz0123456789-."
	if len(all) != 38 {
		t.Fatal("7.3: the model's base")
	}
	singly := func(but rune, with string) string {
		var s strings.Builder
		for _, c := range all {
			if c != but {
				fmt.Fprintf(&s, "valid %X\n", c)
			} else if with != "" {
				fmt.Fprintf(&s, with+"\n", c)
			}
		}
		return s.String()
	}
	if at, e := canon.Check(read(t, singly(-1, ""))); at != 0 || e != api.OK {
		t.Errorf("7.3: Check of the base singly: %d, %v", at, e)
	}
	for _, c := range all {
		for _, with := range []string{"", "ignored %X", "mapped %X 61", "shift %X 61 1", "deviation %X", "mark %X", "bidi %X L", "script %X Latn", "weight %X 1"} {
			l := read(t, singly(c, with))
			if at, e := canon.Check(l); at != len(l) || e != api.ErrBase {
				t.Errorf("7.3: Check of the base without %c, but with %q: %d of %d, %v", c, with, at, len(l), e)
			}
			l = append(l, class(0x300, 0x300, 1))
			if at, e := canon.Check(l); at != len(l) || e != api.ErrBase {
				t.Errorf("7.3: Check of the base without %c, and one more: %d of %d, %v", c, at, len(l), e)
			}
		}
	}
	for s, want := range map[string]api.Errno{
		"valid 2D..2E\nvalid 30..39\nvalid 61..7A": api.OK, "valid 2D..7A": api.OK, "valid 2D..39\nvalid 61..7B": api.OK,
		"valid 2E..7A": api.ErrBase, "valid 2D..79": api.ErrBase, "valid 2D\nvalid 2F..7A": api.ErrBase, "valid 2D..2E\nvalid 31..7A": api.ErrBase, "valid 2D..38\nvalid 3A..7A": api.ErrBase, "valid 2D..60\nvalid 62..7A": api.ErrBase,
	} {
		l := read(t, s)
		if at, e := canon.Check(l); e != want || e == api.ErrBase && at != len(l) || e == api.OK && at != 0 {
			t.Errorf("7.3: Check of %q: %d, %v", s, at, e)
		}
	}
}

// drawnTable is a base, whole or nearly so, and records of few numbers, most of them right by themselves.
func drawnTable(r *rand.Rand) []api.Record {
	starters := []rune{0x41, 0x42, 0x3000, 0x3001, 0xAC00, 0x1100, 0xAC01}
	marks := []rune{0x300, 0x301, 0x302, 0x303, 0x304}
	letters := []rune{0xC0, 0xC1, 0xC2, 0xC3, 0xC4, 0xC5, 0x340}
	odd := []rune{0x2E, 0x7F, 0x80, 0x1161, 0x11A8, 0x1112, 0xD7A3, 0xD7A4, 0x340}
	pick := func(lists ...[]rune) rune {
		l := lists[r.IntN(len(lists))]
		return l[r.IntN(len(l))]
	}
	l := []api.Record{{Kind: api.KValid, Lo: 0x61, Hi: 0x7A}, {Kind: api.KValid, Lo: 0x30, Hi: 0x39}, {Kind: api.KValid, Lo: 0x2D, Hi: 0x2E}}
	if r.IntN(15) == 0 {
		l[r.IntN(3)].Kind = api.KIgnored
	}
	for range r.IntN(14) {
		c, m := pick(letters), pick(marks)
		if r.IntN(40) == 0 {
			c = pick(odd)
		}
		if r.IntN(40) == 0 {
			m = pick(odd)
		}
		var x api.Record
		switch r.IntN(10) {
		case 0:
			x = opens(c, pick(starters, starters, letters, odd))
		case 1, 2:
			x = opens(c, pick(starters, marks, marks, letters), pick(marks, marks, marks, letters))
		case 3, 4, 5:
			x = class(int(m), int(m)+r.IntN(2), 1+r.IntN(9))
		case 6:
			x = decomp(c, pick(letters, letters, starters, odd), pick(marks, marks, marks, odd))
		default:
			x = decomp(c, pick(starters, starters, letters), pick(marks))
		}
		known := func(c int) bool { return table.Find(l, table.Family(x.Kind), rune(c)) >= 0 }
		if r.IntN(60) == 0 || !known(x.Lo) && !known(x.Hi) {
			l = append(l, x)
		}
	}
	r.Shuffle(len(l), func(i, j int) { l[i], l[j] = l[j], l[i] })
	return l
}

func TestCheckOfAll(t *testing.T) {
	r := rand.New(rand.NewPCG(7, 3))
	met := map[api.Errno]int{}
	rich := 0
	for range 20000 {
		l := drawnTable(r)
		e := checkTable(t, l)
		met[e]++
		if e == api.OK && len(l) > 6 {
			rich++
		}
	}
	for _, e := range []api.Errno{api.OK, api.ErrTwice, api.ErrBase, api.ErrHangul, api.ErrLoop, api.ErrPair, api.ErrClass} {
		if met[e] < 100 {
			t.Errorf("7.3: %d was drawn %d times alone: %d", e, met[e], met)
		}
	}
	if rich < 1000 {
		t.Errorf("7.3: %d great right tables alone were drawn", rich)
	}
}

// TestCheckOfGreatTables: as many records as there may be, each with as long a way as there may be.
func TestCheckOfGreatTables(t *testing.T) {
	l := slices.Concat(read(t, base), tree(5))
	for i := range rune(9) {
		l = append(l, opens(0x2005+i, 0x2006+i))
	}
	for i := range rune(api.MaxRecords - len(l)) {
		l = append(l, opens(0x20000+i, 0x2000))
	}
	if at, e := canon.Check(l); at != 0 || e != api.OK {
		t.Errorf("7.3: Check of a great table: %d, %v", at, e)
	}
	l[len(l)-1].To[0] = 0x20000
	if at, e := canon.Check(l); at != 0 || e != api.OK {
		t.Errorf("7.3: Check of a great table with a way of 16 steps: %d, %v", at, e)
	}
	l[len(l)-2].To[0] = rune(l[len(l)-1].Lo)
	if at, e := canon.Check(l); at != len(l)-2 || e != api.ErrDeep {
		t.Errorf("7.3: Check of a great table with a way of 17 steps: %d, %v", at, e)
	}
	l[3].To[0], l[3].To[1] = 0x41, rune(l[len(l)-2].Lo)
	if at, e := canon.Check(l); at != 3 || e != api.ErrLoop {
		t.Errorf("7.3: Check of a great table with a loop: %d, %v", at, e)
	}
}

// rightTables are tables that Check takes.
func rightTables(t *testing.T) [][]api.Record {
	t.Helper()
	all := [][]api.Record{slices.Concat(read(t, base), chain(16)), slices.Concat(read(t, base), tree(5))}
	for _, s := range fine {
		all = append(all, read(t, base+s))
	}
	r := rand.New(rand.NewPCG(7, 4))
	for len(all) < 300 {
		if l := drawnTable(r); len(l) > 6 {
			if _, e := canon.Check(l); e == api.OK {
				all = append(all, l)
			}
		}
	}
	return all
}

// checkRight is 7.4 at c.
func checkRight(t *testing.T, l []api.Record, c rune) {
	t.Helper()
	x, e := canon.Full(l, c)
	if e != api.OK || len(x) == 0 || len(x) > api.MaxFull {
		t.Fatalf("7.4: Full(%+v, %X): %X, %v", l, c, x, e)
	}
	ahead := 0
	for _, y := range x {
		if len(canon.Open(l, y)) > 0 {
			t.Fatalf("7.4: Full(%+v, %X): %X, of which %X opens", l, c, x, y)
		}
		n := canon.Class(l, y)
		if n != 0 && n < ahead {
			t.Fatalf("7.4: Full(%+v, %X): %X, whose classes fall at %X", l, c, x, y)
		}
		ahead = n
	}
}

func TestFullInRightTables(t *testing.T) {
	whole := read(t, base+"decomp 1EA6 C2 300\ndecomp C2 41 302\nopens 344 308 301\nopens 1F71 3AC\ndecomp 3AC 3B1 301\nclass 300..314 230\nclass 323 220\ndecomp 1EA1 61 323\ndecomp 1EAD 1EA1 302")
	if at, e := canon.Check(whole); at != 0 || e != api.OK {
		t.Fatalf("7.3: Check of a table: %d, %v", at, e)
	}
	for c := range rune(0x110000) {
		checkRight(t, whole, c)
	}
	for _, l := range rightTables(t) {
		for _, c := range hangulEdges {
			checkRight(t, l, c)
		}
		for _, r := range l {
			for c := rune(r.Lo); c <= rune(min(r.Hi, r.Lo+20)); c++ {
				checkRight(t, l, c)
			}
			for _, c := range r.To {
				checkRight(t, l, c)
			}
		}
	}
}

// orders calls f with l in every order (it is changed by that).
func orders(l []api.Record, n int, f func([]api.Record)) {
	if n < 2 {
		f(l)
		return
	}
	for i := range n {
		l[i], l[n-1] = l[n-1], l[i]
		orders(l, n-1, f)
		l[i], l[n-1] = l[n-1], l[i]
	}
}

func TestAnyOrder(t *testing.T) {
	right := func(l []api.Record) {
		if at, e := canon.Check(l); at != 0 || e != api.OK {
			t.Fatalf("7.5: Check(%+v), in another order: %d, %v", l, at, e)
		}
	}
	r := rand.New(rand.NewPCG(7, 5))
	for _, l := range rightTables(t) {
		if len(l) <= 6 {
			orders(slices.Clone(l), len(l), right)
			continue
		}
		for range 30 {
			x := slices.Clone(l)
			r.Shuffle(len(x), func(i, j int) { x[i], x[j] = x[j], x[i] })
			right(x)
		}
	}
	for range 4000 {
		l := drawnTable(r)
		_, e := canon.Check(l)
		slices.Reverse(l)
		if _, f := canon.Check(l); (e == api.OK) != (f == api.OK) {
			t.Fatalf("7.5: Check of %+v: %v, turned round: %v", l, f, e)
		}
	}
}

// roomy is a list with room behind it, and with room behind each To, all of it filled with a mark.
func roomy(l []api.Record) []api.Record {
	room := make([]api.Record, len(l)+4)
	for i := range room {
		room[i] = api.Record{Kind: 99, Name: "room"}
		if i < len(l) {
			room[i] = l[i]
			to := append(slices.Clone(l[i].To), 7, 7, 7)
			room[i].To = to[:len(l[i].To)]
		}
	}
	return room[:len(l)]
}

func TestWhatIsHandedInStays(t *testing.T) {
	deep := slices.Concat(read(t, base), chain(20))
	unsorted := read(t, "opens C1 300 301\nclass 301 230\nclass 300 230\ndecomp C0 41 300\n"+base+"opens BF C0")
	for _, l := range [][]api.Record{unsorted, deep, tree(6), ring(3), {opens(0xC0), decomp(0xC0, 1, 2)}, {opens(0xC0, leaves(40)...)}} {
		in := roomy(l)
		canon.Check(in)
		for _, c := range []rune{0xC0, 0xC1, 0xBF, 0x2000, 0x300, 0xAC00, -1} {
			canon.Class(in, c)
			canon.Open(in, c)
			canon.Primary(in, c)
			canon.Full(in, c)
		}
		if !table.Same(in, l) {
			t.Fatalf("7.1 to 7.3: what was handed in has changed: %+v", in)
		}
		for i, r := range in[:cap(in)] {
			if i >= len(l) && (r.Kind != 99 || r.Name != "room" || len(r.To) > 0) || i < len(l) && slices.ContainsFunc(r.To[len(r.To):len(r.To)+3], func(c rune) bool { return c != 7 }) {
				t.Fatalf("7.1 to 7.3: the room behind what was handed in has changed at %d: %+v", i, r)
			}
		}
	}
}

func TestWhatIsToldIsItsCallers(t *testing.T) {
	l := slices.Concat(read(t, base+"decomp C0 41 300\nopens C1 C0 301\nopens C2 C1"), tree(5))
	in := roomy(l)
	for _, c := range []rune{0x41, 0xC0, 0xC1, 0xC2, 0x2000, 0x2004, 0xAC00, 0xAC01, 0xD7A3} {
		for range 2 {
			checkOpening(t, in, c)
			checkFull(t, in, c)
			full, _ := canon.Full(in, c)
			for _, x := range [][]rune{canon.Open(in, c), full} {
				for i := range x[:cap(x)] {
					x[:cap(x)][i] = -9
				}
			}
		}
	}
	if !table.Same(in, l) {
		t.Fatalf("7.1, 7.2: what was told is the list's own memory: %+v", in)
	}
	for i, r := range in {
		if slices.ContainsFunc(r.To[len(r.To):len(r.To)+3], func(c rune) bool { return c != 7 }) {
			t.Fatalf("7.1, 7.2: what was told is the room behind the list's own memory, at %d", i)
		}
	}
	if at, e := canon.Check(in); at != 0 || e != api.OK {
		t.Errorf("7.3: behind answers that were written over: %d, %v", at, e)
	}
}
