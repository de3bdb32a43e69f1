package remap_test

import (
	"iter"
	"math/rand/v2"
	"slices"
	"testing"

	"endonym/api"
	"endonym/house"
	"endonym/remap"
	"endonym/ucd"
)

func points(c ...rune) []rune { return c }

func many(n int, c ...rune) []rune { return slices.Repeat(c, n) }

// some is what of a sequence is worth showing.
func some(x []rune) []rune { return x[:min(len(x), 16)] }

// part is what is handed out at one step of a range.
type part struct {
	c rune
	y []rune
}

func ranged(p iter.Seq2[rune, []rune]) []part {
	var l []part
	for c, y := range p {
		l = append(l, part{c, y})
	}
	return l
}

func sameParts(a, b []part) bool {
	return slices.EqualFunc(a, b, func(a, b part) bool { return a.c == b.c && slices.Equal(a.y, b.y) })
}

func checkOne(t *testing.T, d *ucd.Data, c rune, flags int, want []rune) {
	t.Helper()
	if y := remap.One(d, c, flags); !slices.Equal(y, want) {
		t.Errorf("15.1: One of %X, %d: %X, want %X", c, flags, y, want)
	}
}

func checkMap(t *testing.T, d *ucd.Data, x []rune, flags int, want []rune, wanted api.Errno) {
	t.Helper()
	if y, e := remap.Map(d, x, flags); !slices.Equal(y, want) || e != wanted {
		t.Errorf("15.2: Map of %d, %X, %d: %d, %X, %d, want %d, %X, %d", len(x), some(x), flags, len(y), some(y), int(e), len(want), some(want), int(wanted))
	}
}

func checkSettled(t *testing.T, d *ucd.Data, x []rune, flags int, want bool) {
	t.Helper()
	if remap.Settled(d, x, flags) != want {
		t.Errorf("15.3: Settled of %d, %X, %d: want %t", len(x), some(x), flags, want)
	}
}

func checkParts(t *testing.T, p iter.Seq2[rune, []rune], want []part) {
	t.Helper()
	if l := ranged(p); !sameParts(l, want) {
		t.Errorf("15.3: Parts: %X, want %X", l, want)
	}
}

func TestExamples(t *testing.T) {
	d := house.Data()
	for _, c := range []struct {
		x     []rune
		flags int
		want  []rune
	}{
		{points(0x46, 0x6F, 0x6F), 0, points(0x66, 0x6F, 0x6F)},
		{points(0x33C7), 0, points(0x63, 0x6F, 0x2E)},
		{points(0x3C2), 0, points(0x3C2)},
		{points(0x3C2), api.Transitional, points(0x3C3)},
		{points(0x61, 0xAD, 0x62), 0, points(0x61, 0x62)},
		{points(0x200C), api.Transitional, nil},
		{points(0xFFFF), 0, points(0xFFFF)},
	} {
		checkMap(t, d, c.x, c.flags, c.want, api.OK)
	}
	checkSettled(t, d, points(0x66, 0x6F, 0x6F), 0, true)
	checkSettled(t, d, points(0x46), 0, false)
	checkSettled(t, d, points(0x200D), 0, true)
}

// Without Data every call has its answer, whatever stands beside it.
func TestNoData(t *testing.T) {
	for _, flags := range slices.Concat(settings.with, settings.without) {
		for _, x := range [][]rune{nil, {}, {0x61}, {0xAD}, {-1}, many(api.MaxPoints, 0x61), many(api.MaxPoints+1, 0x61), many(2*api.MaxPoints, 0x33C7)} {
			checkMap(t, nil, x, flags, nil, api.ErrArg)
			checkSettled(t, nil, x, flags, false)
			checkParts(t, remap.Parts(nil, x, flags), nil)
		}
		for _, c := range append(points(0, 0x41, 0x61, 0xAD, 0x200C), noPoints...) {
			checkOne(t, nil, c, flags, nil)
		}
	}
}

// Each case is what a number comes to without Transitional, and with it.
func TestOne(t *testing.T) {
	d := turnWorld(t).d
	letters := points(0x61, 0x62, 0x63, 0x64, 0x65, 0x66, 0x67, 0x68, 0x69, 0x6A, 0x6B, 0x6C, 0x6D, 0x6E, 0x6F, 0x70, 0x71, 0x72, 0x73, 0x74, 0x75, 0x76, 0x77, 0x78)
	for _, c := range []struct {
		c          rune
		want, with []rune
	}{
		// Valid
		{0x61, points(0x61), points(0x61)}, {0x2E, points(0x2E), points(0x2E)}, {0x101, points(0x101), points(0x101)}, {0xDFFF, points(0xDFFF), points(0xDFFF)},
		// Disallowed
		{0x20, points(0x20), points(0x20)}, {0x300, points(0x300), points(0x300)}, {0xAC00, points(0xAC00), points(0xAC00)}, {0xDBFF, points(0xDBFF), points(0xDBFF)}, {0x10FFFD, points(0x10FFFD), points(0x10FFFD)},
		// Ignored
		{0xAD, nil, nil}, {0xAF, nil, nil}, {0xB0, nil, nil}, {0xB1, nil, nil}, {0x103, nil, nil}, {0, nil, nil}, {0xDC00, nil, nil},
		// Mapped: what comes is not mapped again
		{0xC0, points(0x41, 0x300), points(0x41, 0x300)}, {0xC1, points(0xC1), points(0xC1)}, {0xC3, points(0xC1), points(0xC1)}, {0xC4, points(0xAD, 0xC4), points(0xAD, 0xC4)}, {0xC5, points(0xC6), points(0xC6)},
		{0x2000, letters, letters}, {0xD801, points(0x61), points(0x61)}, {0x10FFFE, points(0x10FFFD, 0), points(0x10FFFD, 0)}, {0x10FFFF, points(0x10FFFD, 0), points(0x10FFFD, 0)},
		// by a shift: its first, one amid, its last; between its steps it says nothing
		{0x41, points(0x61), points(0x61)}, {0x4D, points(0x6D), points(0x6D)}, {0x5A, points(0x7A), points(0x7A)}, {0x5B, points(0x5B), points(0x5B)}, {0x40, points(0x40), points(0x40)},
		{0x100, points(0x200), points(0x200)}, {0x102, points(0x202), points(0x202)}, {0x110, points(0x210), points(0x210)}, {0x105, points(0x105), points(0x105)}, {0x112, points(0x112), points(0x112)},
		{0x120, points(0x110), points(0x110)}, {0x160, points(0x150), points(0x150)}, {0x17E, points(0x17E), points(0x17E)},
		// a Deviation, whose Mapping may be empty, itself, or what is mapped or Ignored
		{0xDF, points(0xDF), points(0x73, 0x73)}, {0xE0, points(0xE0), points(0x41)}, {0x200C, points(0x200C), nil}, {0x200D, points(0x200D), points(0x200D)}, {0x200E, points(0x200E), points(0xAD)}, {0x2001, points(0x2001), letters},
	} {
		for _, flags := range settings.without {
			checkOne(t, d, c.c, flags, c.want)
			checkMap(t, d, points(c.c), flags, c.want, api.OK)
			checkMap(t, d, points(0x62, c.c, 0x63), flags, slices.Concat(points(0x62), c.want, points(0x63)), api.OK)
			checkParts(t, remap.Parts(d, points(c.c), flags), []part{{c.c, c.want}})
			checkSettled(t, d, points(c.c), flags, slices.Equal(c.want, points(c.c)))
		}
		for _, flags := range settings.with {
			checkOne(t, d, c.c, flags, c.with)
			checkMap(t, d, points(c.c), flags, c.with, api.OK)
			checkMap(t, d, points(0x62, c.c, 0x63), flags, slices.Concat(points(0x62), c.with, points(0x63)), api.OK)
			checkParts(t, remap.Parts(d, points(c.c), flags), []part{{c.c, c.with}})
			checkSettled(t, d, points(c.c), flags, slices.Equal(c.with, points(c.c)))
		}
	}
	for _, c := range noPoints {
		for _, flags := range slices.Concat(settings.with, settings.without) {
			checkOne(t, d, c, flags, points(c))
			checkMap(t, d, points(0x41, c, 0xAD, c), flags, points(0x61, c, c), api.OK)
		}
	}
	checkMap(t, d, noPoints, 0, noPoints, api.OK)
	checkMap(t, d, nil, 0, nil, api.OK)
	checkMap(t, d, points(), api.Transitional, nil, api.OK)
}

// Every number of each world's own, of the first 300 and round the surrogates, with each setting.
func TestOneOfEach(t *testing.T) {
	for _, w := range []*world{houseWorld(t), turnWorld(t), baseWorld(t)} {
		all := slices.Clone(w.all)
		for c := rune(-5); c < 0x300; c++ {
			all = append(all, c, 0xD7F0+c)
		}
		for _, flags := range settings.with {
			w.check(t, all, flags, true)
		}
		for _, flags := range settings.without {
			w.check(t, all, flags, false)
		}
	}
}

func TestMostThatCome(t *testing.T) {
	w := turnWorld(t)
	d := w.d
	const most = api.MaxPoints
	some24 := many(most/24, 0x2000)
	for _, c := range []struct {
		x     []rune
		flags int
		come  int
	}{
		{many(most, 0x61), 0, most}, {many(most, 0x41), 0, most}, {many(most, -1), 0, most}, {many(most, 0x10FFFD), 0, most},
		// x has more numbers than may come: most of them are Ignored, ahead, amid, behind
		{many(most+1, 0xAD), 0, 0}, {many(3*most, 0xAD), 0, 0}, {many(most+1, 0x200C), api.Transitional, 0},
		{slices.Concat(many(2*most, 0xAD), many(most, 0x61)), 0, most}, {many(most, 0xAD, 0x61, 0xB0), 0, most}, {slices.Concat(many(most, 0x61), many(2*most, 0xAD)), 0, most},
		{many(most/2, 0x200C, 0x61, 0xDF), api.Transitional, most + most/2}, {many(most/4, 0x200C, 0x61, 0x62, 0xDF, 0xAD), api.Transitional, most},
		// x is short, and its numbers are mapped to many
		{many(most/2, 0xC0), 0, most}, {many(most/2, 0xDF), api.Transitional, most}, {many(most, 0xDF), 0, most}, {append(slices.Clone(some24), many(16, 0x61)...), 0, most},
		{append(many(16, 0x61), some24...), 0, most}, {append(many(most/24, 0x2001), many(8, 0xC0)...), api.Transitional, most},
	} {
		want := w.whole(c.x, c.flags == api.Transitional)
		if len(want) != c.come {
			t.Fatalf("%d, %X come to %d", len(c.x), some(c.x), len(want))
		}
		if c.come > most {
			checkMap(t, d, c.x, c.flags, nil, api.ErrLong)
			continue
		}
		checkMap(t, d, c.x, c.flags, want, api.OK)
		checkMap(t, d, append(slices.Clone(c.x), many(10, 0xAD)...), c.flags, want, api.OK)
		if c.come < most {
			continue
		}
		// one more: behind and ahead, with what is Ignored behind it, and where several come at once
		for _, more := range [][]rune{{0x61}, {0x41}, {-1}, {0xC0}, {0x2000}, {0x61, 0xAD, 0xAD}, {0xAD, 0x61}} {
			checkMap(t, d, append(slices.Clone(c.x), more...), c.flags, nil, api.ErrLong)
			checkMap(t, d, append(slices.Clone(more), c.x...), c.flags, nil, api.ErrLong)
			checkSettled(t, d, append(slices.Clone(c.x), more...), c.flags, false)
		}
	}
	// one number that is mapped to 24 steps over the bound
	for left := range 24 {
		checkMap(t, d, append(many(most-left, 0x61), 0x2000), 0, nil, api.ErrLong)
	}
	checkMap(t, d, append(many(most-24, 0x62), 0x2000), 0, append(many(most-24, 0x62), remap.One(d, 0x2000, 0)...), api.OK)
	// Parts hands out whatever was handed in
	w.checkParts(t, many(most+1, 0x61), 0, false)
	w.checkParts(t, many(most, 0x2000, 0xAD), 0, false)
}

func TestSettled(t *testing.T) {
	d := turnWorld(t).d
	const most = api.MaxPoints
	for _, c := range []struct {
		x             []rune
		want, transit bool
	}{
		// x itself: nothing is turned
		{nil, true, true}, {points(), true, true}, {points(0x61), true, true}, {points(0x61, 0x2E, 0x20, 0xD900, -1, 0x110041), true, true}, {noPoints, true, true}, {many(most, 0x61), true, true},
		// x itself, though numbers of it are turned: to themselves, or what is lost comes from a neighbour
		{points(0xC1, 0xC1), true, true}, {points(0x200D, 0xC1), true, true}, {points(0xAD, 0xC4), true, true}, {points(0x61, 0xAD, 0xC4, 0x62, 0xAD, 0xC4), true, true}, {points(0x190, 0xAF), true, true}, {points(0x17E), true, true}, {many(most/2, 0xAD, 0xC4), true, true}, {many(most/2, 0x190, 0xAF), true, true},
		// another one of the same length
		{points(0x41), false, false}, {points(0x61, 0x62, 0x41), false, false}, {points(0xC5, 0xC6), false, false}, {points(0xC2), false, false}, {points(0xC1, 0xC3), false, false}, {points(0xAF, 0x190), false, false}, {points(0xC4, 0xAD), false, false}, {points(0xB0, 0xC4), false, false}, {points(0x100), false, false}, {many(most, 0x5A), false, false},
		// a shorter one: x without its end, without its front, none
		{points(0x61, 0xAD), false, false}, {points(0xAD, 0x61), false, false}, {points(0x61, 0xAD, 0x62), false, false}, {points(0xAD), false, false}, {points(0x61, 0x61, 0xAD), false, false}, {many(most+1, 0xAD), false, false}, {append(many(most, 0x61), 0xAD), false, false},
		// a longer one
		{points(0xC4), false, false}, {points(0x190), false, false}, {points(0x61, 0x190), false, false}, {points(0xC7), false, false}, {points(0xC9), false, false}, {points(0xC0), false, false},
		// what Map refuses, even where x itself would come
		{many(most+1, 0x61), false, false}, {many(most+1, -1), false, false}, {many(most/2+1, 0xAD, 0xC4), false, false}, {append(many(most/2, 0x190, 0xAF), 0x61), false, false}, {many(most/24+1, 0x2000), false, false},
		// Deviations
		{points(0xDF), true, false}, {points(0xE0), true, false}, {points(0x200C), true, false}, {points(0x61, 0x200C, 0x62), true, false}, {points(0x200E), true, false}, {points(0x200D), true, true}, {points(0xAD, 0xDF), false, false}, {many(most, 0x2001), true, false},
	} {
		checkSettled(t, d, c.x, 0, c.want)
		checkSettled(t, d, c.x, api.Transitional, c.transit)
		checkSettled(t, d, c.x, ^api.Transitional, c.want)
		checkSettled(t, d, c.x, -1, c.transit)
	}
}

var (
	partsOf = points(0x41, 0xAD, 0xC0, -1, 0x61, 0x200C, 0x102)
	parts0  = []part{{0x41, points(0x61)}, {0xAD, nil}, {0xC0, points(0x41, 0x300)}, {-1, points(-1)}, {0x61, points(0x61)}, {0x200C, points(0x200C)}, {0x102, points(0x202)}}
)

func TestPartsAgain(t *testing.T) {
	d := turnWorld(t).d
	p := remap.Parts(d, partsOf, 0)
	for range 3 {
		checkParts(t, p, parts0)
	}
	// left early at each place, and ranged over again
	for leave := range parts0 {
		var l []part
		for c, y := range p {
			l = append(l, part{c, y})
			if len(l) == leave+1 {
				break
			}
		}
		if !sameParts(l, parts0[:leave+1]) {
			t.Errorf("15.3: Parts left behind %d: %X", leave+1, l)
		}
		checkParts(t, p, parts0)
	}
	// nothing goes on behind the one who will have no more
	calls := 0
	p(func(rune, []rune) bool { calls++; return false })
	if calls != 1 {
		t.Errorf("15.3: Parts left at once: %d calls", calls)
	}
	// ranged over by numbers alone, and by nothing
	n := 0
	for range p {
		n++
	}
	if n != len(parts0) {
		t.Errorf("15.3: Parts: %d steps", n)
	}
	for _, x := range [][]rune{nil, {}, partsOf[:0]} {
		checkParts(t, remap.Parts(d, x, 0), nil)
		checkParts(t, remap.Parts(d, x, api.Transitional), nil)
	}
	// two of unlike settings do not meddle
	with := slices.Clone(parts0)
	with[5].y = nil
	checkParts(t, remap.Parts(d, partsOf, api.Transitional), with)
	checkParts(t, p, parts0)
}

func TestPartsNested(t *testing.T) {
	p := remap.Parts(turnWorld(t).d, partsOf, 0)
	at := 0
	for c, y := range p {
		checkParts(t, p, parts0)
		for range p {
			break
		}
		if c != parts0[at].c || !slices.Equal(y, parts0[at].y) {
			t.Errorf("15.3: Parts with a range within: at %d: %X, %X", at, c, y)
		}
		at++
	}
	if at != len(parts0) {
		t.Errorf("15.3: Parts with a range within: %d of them", at)
	}
	// two ranges step by step beside each other
	next, stop := iter.Pull2(p)
	defer stop()
	other, end := iter.Pull2(p)
	defer end()
	for i, want := range parts0 {
		c, y, ok := next()
		if i%2 == 0 {
			checkParts(t, p, parts0)
		}
		a, b, same := other()
		if !ok || !same || !sameParts([]part{{c, y}, {a, b}}, []part{want, want}) {
			t.Errorf("15.3: Parts side by side: at %d: %X, %X, %t, %X, %X, %t", i, c, y, ok, a, b, same)
		}
	}
	if _, _, ok := next(); ok {
		t.Error("15.3: Parts side by side: no end")
	}
}

// Each range tells of x as it was when Parts was called.
func TestPartsOfWrittenOver(t *testing.T) {
	d := turnWorld(t).d
	x := slices.Clone(partsOf)
	p := remap.Parts(d, x, 0)
	for i := range x {
		x[i] = 0x2000
	}
	checkParts(t, p, parts0)

	x = slices.Clone(partsOf)
	p = remap.Parts(d, x, 0)
	var l []part
	for c, y := range p {
		l = append(l, part{c, slices.Clone(y)})
		for i := range x {
			x[i] = 0xC4
		}
		// what is handed out may be written over too
		for i := range y[:cap(y)] {
			y[:cap(y)][i] = 0xC5
		}
	}
	if !sameParts(l, parts0) {
		t.Errorf("15.3: Parts written over amid: %X", l)
	}
	checkParts(t, p, parts0)

	// x grows within its room, and shrinks
	x = append(make([]rune, 0, 20), partsOf...)
	p = remap.Parts(d, x[:3], 0)
	x = append(x[:2], 0x61, 0x62)
	checkParts(t, p, parts0[:3])
}

// What is handed in is unchanged, its spare room too, and what is told is its caller's own.
func TestMemory(t *testing.T) {
	for _, w := range []*world{houseWorld(t), turnWorld(t)} {
		for _, flags := range []int{0, api.Transitional} {
			room := slices.Concat(w.all, many(20, 0x41))
			kept := slices.Clone(room)
			x := room[:len(w.all)]
			w.check(t, x, flags, flags != 0)
			if !slices.Equal(room, kept) {
				t.Errorf("15: %s: what was handed in is changed", w.name)
			}
			w.checkOwn(t, x, flags)
		}
	}
}

// checkOwn writes over all that is told, and wants to be told the same again.
func (w *world) checkOwn(t *testing.T, x []rune, flags int) {
	t.Helper()
	spoil := func(y []rune) {
		for i := range y[:cap(y)] {
			y[:cap(y)][i] = -7
		}
	}
	kept := slices.Clone(x)
	first, _ := remap.Map(w.d, x, flags)
	second, _ := remap.Map(w.d, x, flags)
	want := slices.Clone(first)
	spoil(first)
	if !slices.Equal(second, want) {
		t.Errorf("15.2: %s: two answers of Map share memory", w.name)
	}
	p := remap.Parts(w.d, x, flags)
	all, again := ranged(p), ranged(p)
	for i, q := range all {
		copied := slices.Clone(again[i].y)
		one := remap.One(w.d, q.c, flags)
		spoil(q.y)
		if !slices.Equal(again[i].y, copied) || !slices.Equal(one, copied) {
			t.Errorf("15.3: %s: two Ones of %X share memory", w.name, q.c)
		}
		spoil(one)
		if i+1 < len(all) && !slices.Equal(all[i+1].y, again[i+1].y) {
			t.Errorf("15.3: %s: two lists of one range share memory", w.name)
		}
	}
	if !slices.Equal(x, kept) {
		t.Errorf("15: %s: an answer shares memory with what was handed in", w.name)
	}
	w.check(t, x, flags, flags&api.Transitional != 0)
	// where x itself is told, it is not handed back
	still := many(30, 0x61)
	y, _ := remap.Map(w.d, still, flags)
	spoil(y)
	if !slices.Equal(still, many(30, 0x61)) {
		t.Errorf("15.2: %s: Map tells what was handed in, not a copy", w.name)
	}
}

// What has been refused, or settled, or left early, leaves no trace.
func TestBehindRefusals(t *testing.T) {
	w := turnWorld(t)
	for range 2 {
		checkMap(t, w.d, many(api.MaxPoints+1, 0x61), 0, nil, api.ErrLong)
		checkMap(t, nil, partsOf, 0, nil, api.ErrArg)
		checkMap(t, w.d, partsOf, api.Transitional, points(0x61, 0x41, 0x300, -1, 0x61, 0x202), api.OK)
		checkMap(t, w.d, partsOf, 0, points(0x61, 0x41, 0x300, -1, 0x61, 0x200C, 0x202), api.OK)
	}
}

func TestBehindOneAnother(t *testing.T) {
	const most = api.MaxPoints
	w := turnWorld(t)
	for _, flags := range []int{0, api.Transitional} {
		for _, c := range []struct{ x, y []rune }{
			{nil, nil}, {nil, points(0x41)}, {points(0x41), nil}, {points(0x41, 0xAD), points(0xC0, 0x42)}, {points(0xAD), points(0xC4)}, {points(0x190), points(0xAF)}, {points(0x61, 0x200C), points(0x200C, 0xDF)}, {points(-1), points(0x110000)}, {points(0x61), points(0x300)}, {points(0x1100), points(0x1161)},
			{many(most, 0x61), nil}, {nil, many(most, 0x61)}, {many(most-1, 0x61), points(0x41)}, {many(most, 0x61), many(most, 0xAD)}, {many(most, 0x61), points(0x61)}, {many(most/2, 0x62), many(most/2+1, 0x41)}, {many(most, 0x61), many(most, 0x62)}, {many(most/24, 0x2000), many(16, 0x61)}, {many(most/24, 0x2000), many(17, 0x61)},
		} {
			w.checkBehind(t, c.x, c.y, flags)
		}
	}
}

// What is Valid stays, alone and amid others.
func TestValidStays(t *testing.T) {
	draw := rand.New(rand.NewPCG(15, 1))
	worlds := []*world{houseWorld(t), turnWorld(t), baseWorld(t)}
	for range 20 {
		worlds = append(worlds, drawnWorld(t, draw))
	}
	for _, w := range worlds {
		var valid []rune
		for c := rune(-3); c < 0x3000; c++ {
			if w.d.Status(c) == api.Valid {
				valid = append(valid, c)
			}
		}
		if len(valid) < 38 {
			t.Fatalf("%s: %d are Valid", w.name, len(valid))
		}
		for _, flags := range []int{0, api.Transitional, -1} {
			if y, e := remap.Map(w.d, valid, flags); !slices.Equal(y, valid) || e != api.OK || !remap.Settled(w.d, valid, flags) {
				t.Errorf("15.4: %s: of %d that are Valid %d stay: %d", w.name, len(valid), len(y), int(e))
			}
			for _, c := range valid {
				if !slices.Equal(remap.One(w.d, c, flags), points(c)) {
					t.Errorf("15.4: %s: %X is Valid and does not stay", w.name, c)
				}
			}
		}
	}
}

func TestDrawnSequences(t *testing.T) {
	draw := rand.New(rand.NewPCG(15, 2))
	for _, w := range []*world{houseWorld(t), turnWorld(t), baseWorld(t)} {
		for range 1500 {
			x, y := w.drawn(draw, 12), w.drawn(draw, 12)
			w.checkBoth(t, draw, x)
			w.checkBehind(t, x, y, draw.IntN(64))
		}
	}
}

func TestDrawnTables(t *testing.T) {
	draw := rand.New(rand.NewPCG(15, 3))
	for range 150 {
		w := drawnWorld(t, draw)
		w.checkBoth(t, draw, w.all)
		for range 30 {
			x, y := w.drawn(draw, 8), w.drawn(draw, 8)
			w.checkBoth(t, draw, x)
			w.checkBehind(t, x, y, draw.IntN(64))
		}
	}
}

// All sequences of up to four numbers of some that Settled may mistake.
func TestShortSequences(t *testing.T) {
	w := turnWorld(t)
	for _, alphabet := range [][]rune{{0xAD, 0xC4, 0x61, 0xC1}, {0x190, 0xAF, 0xB0, 0x200D}, {0xC5, 0xC6, 0x200E, -1}, {0x41, 0x61, 0x200C, 0xE0}} {
		var each func(x []rune)
		each = func(x []rune) {
			w.check(t, x, 0, false)
			w.check(t, x, api.Transitional, true)
			if len(x) < 4 {
				for _, c := range alphabet {
					each(append(slices.Clone(x), c))
				}
			}
		}
		each(nil)
	}
}
