package feed_test

import (
	"math"
	"math/rand/v2"
	"slices"
	"testing"

	"endonym/api"
	"endonym/canon"
	"endonym/feed"
	"endonym/house"
	"endonym/norm"
	"endonym/table"
	"endonym/ucd"
)

const base = "valid 61..7A\nvalid 30..39\nvalid 2D..2E\n"

// chains has what composes in unusual ways: starters with starters, a number with itself, Hangul with what is none;
// numbers that begin with one that composes with what is ahead; and 2100, which opens to 32 marks.
const chains = base + "class 300..302 230\nclass 323 220\nclass 334 1\n" +
	"decomp E0 61 300\ndecomp 1E00 E0 301\ndecomp 1E02 61 323\n" +
	"decomp 2002 2000 2001\ndecomp 2005 2001 2004\ndecomp 2007 2002 2003\ndecomp 200B 2009 2009\ndecomp 200C 200B 2009\n" +
	"decomp 2020 AC00 300\ndecomp 2021 AC01 11A8\ndecomp 2024 11A8 1161\nopens 2030 61 300\nopens 2033 300\nopens 2034 2001\nclass 2035 220\nopens 2035 61\n" +
	"opens 2100 2101 2101\nopens 2101 2102 2102\nopens 2102 2103 2103\nopens 2103 2104 2104\nopens 2104 302 302\n"

// noPoints are numbers that are no code points, some of them like such as compose.
var noPoints = []rune{math.MinInt32, -0xAC01, -0x300, -5, -1, 0x110000, 0x110061, 0x110300, 0x11AC00, math.MaxInt32}

// world is a Data and numbers that it tells apart.
type world struct {
	name string
	d    *ucd.Data
	all  []rune
}

func worldOf(t *testing.T, name string, l []api.Record) *world {
	t.Helper()
	d, at, e := ucd.Compile(l)
	if e != api.OK {
		t.Fatalf("%s: Compile: %d, %v", name, at, e)
	}
	all := append(points(0, 0x2E, 0x61, 0x62, 0x1100, 0x1112, 0x1113, 0x1161, 0x1175, 0x11A7, 0x11A8, 0x11C2, 0xAC00, 0xAC01, 0xD7A3, 0xD800, 0x10FFFF), noPoints...)
	for _, r := range l {
		if r.Kind == api.KClass || r.Kind == api.KDecomp || r.Kind == api.KOpens {
			all = append(append(all, rune(r.Lo), rune(r.Hi)), r.To...)
		}
	}
	slices.Sort(all)
	return &world{name, d, slices.Compact(all)}
}

func written(t *testing.T, name, s string) *world {
	t.Helper()
	l, at, e := table.Parse(s)
	if e != api.OK {
		t.Fatalf("%s: Parse: %v, %v", name, at, e)
	}
	return worldOf(t, name, l)
}

func houseWorld(t *testing.T) *world { t.Helper(); return worldOf(t, "house", house.Table()) }
func chainWorld(t *testing.T) *world { t.Helper(); return written(t, "chains", chains) }
func baseWorld(t *testing.T) *world  { t.Helper(); return written(t, "base", base) }

// drawnWorld is a right table's: records are drawn, and each that makes it wrong is left out.
func drawnWorld(t *testing.T, draw *rand.Rand) *world {
	t.Helper()
	l, _, _ := table.Parse(base)
	pool := points(0x61, 0x62, 0x1100, 0x1161, 0xAC00, 0xAC01, 0x11A8)
	marks := draw.IntN(5)
	for c := range 6 + draw.IntN(14) {
		pool = append(pool, 0x300+rune(c))
		if draw.IntN(5) < marks {
			l = append(l, api.Record{Kind: api.KClass, Lo: 0x300 + c, Hi: 0x300 + c, N: 1 + 50*draw.IntN(marks)})
		}
	}
	one := func() rune { return pool[draw.IntN(len(pool))] }
	for range 50 {
		c := int(one())
		r := api.Record{Kind: api.KDecomp, Lo: c, Hi: c, To: points(one(), one())}
		if sort := draw.IntN(6); sort < 2 {
			r.Kind, r.To = api.KOpens, r.To[sort:]
		}
		if _, e := canon.Check(append(slices.Clone(l), r)); e == api.OK {
			l = append(l, r)
		}
	}
	return worldOf(t, "drawn", l)
}

func (w *world) drawn(draw *rand.Rand, most int) []rune {
	var x []rune
	for n := draw.IntN(most + 1); len(x) < n; {
		c := w.all[draw.IntN(len(w.all))]
		if draw.IntN(2) == 0 {
			x = append(x, w.d.Full(c)...)
		} else {
			x = append(x, c)
		}
	}
	return x[:min(len(x), most)]
}

func (w *world) nfc(t *testing.T, x []rune) []rune {
	t.Helper()
	y, e := norm.NFC(w.d, x)
	if e != api.OK {
		t.Fatalf("%s: NFC of %d: %v", w.name, len(x), e)
	}
	return y
}

// gone is how many of the numbers of x have gone out when all have come: those ahead of the last Safe one.
func (w *world) gone(x []rune) int {
	for i := len(x) - 1; i > 0; i-- {
		if norm.Safe(w.d, x[i]) {
			return i
		}
	}
	return 0
}

// fits is whether nowhere in x more than MaxHeld numbers follow one another of which none but the first is Safe.
func (w *world) fits(x []rune) bool {
	first := 0
	for i, c := range x {
		if norm.Safe(w.d, c) {
			first = i
		}
		if i-first >= api.MaxHeld {
			return false
		}
	}
	return true
}

// watched is a Feed beside all that has come to it since New or Close: by that alone the chapter says what it answers.
type watched struct {
	*world
	f    *feed.Feed
	come []rune
	out  []rune // what has gone out since then
}

func (w *world) fed(t *testing.T) *watched {
	t.Helper()
	f, e := feed.New(w.d)
	if f == nil || e != api.OK {
		t.Fatalf("14.1: %s: New: %v, %v", w.name, f, e)
	}
	return &watched{world: w, f: f}
}

// write is whether the Write was taken.
func (w *watched) write(t *testing.T, x ...rune) bool {
	t.Helper()
	come := slices.Concat(w.come, x)
	var want []rune
	wanted := api.ErrLong
	if w.fits(come) {
		want, wanted = w.nfc(t, come[w.gone(w.come):w.gone(come)]), api.OK
		w.come = come
	}
	y, e := w.f.Write(x...)
	if !slices.Equal(y, want) || e != wanted {
		t.Errorf("14.2: %s: Write of %d, %X: %d, %X, %d, want %d, %X, %d", w.name, len(x), some(x), len(y), some(y), int(e), len(want), some(want), int(wanted))
	}
	w.out = append(w.out, y...)
	w.held(t, w.come[w.gone(w.come):])
	return e == api.OK
}

func (w *watched) held(t *testing.T, want []rune) {
	t.Helper()
	if y := w.f.Held(); !slices.Equal(y, want) {
		t.Errorf("14.3: %s: Held: %d, %X, want %d, %X", w.name, len(y), some(y), len(want), some(want))
	}
}

// close holds what went out in all against the NFC of what came.
func (w *watched) close(t *testing.T) {
	t.Helper()
	want := w.nfc(t, w.come[w.gone(w.come):])
	y := w.f.Close()
	if !slices.Equal(y, want) {
		t.Errorf("14.3: %s: Close: %d, %X, want %d, %X", w.name, len(y), some(y), len(want), some(want))
	}
	if all, whole := append(w.out, y...), w.nfc(t, w.come); !slices.Equal(all, whole) {
		t.Errorf("14.4: %s: %d, %X in pieces: %d, %X, its NFC: %d, %X", w.name, len(w.come), some(w.come), len(all), some(all), len(whole), some(whole))
	}
	w.come, w.out = nil, nil
	w.held(t, nil)
}

// eachCut goes through all the ways to cut x into pieces, none of them empty but that of an empty x.
func eachCut(x []rune, look func(pieces [][]rune)) {
	for cuts := range 1 << max(len(x)-1, 0) {
		var pieces [][]rune
		from := 0
		for at := 1; at <= len(x); at++ {
			if at == len(x) || cuts>>(at-1)&1 == 1 {
				pieces = append(pieces, x[from:at])
				from = at
			}
		}
		look(pieces)
	}
}

// drawnCut is x in drawn pieces, some of them empty.
func drawnCut(draw *rand.Rand, x []rune) [][]rune {
	var pieces [][]rune
	most := 1 + draw.IntN(8)
	for len(x) > 0 {
		n := min(draw.IntN(most+1), len(x))
		pieces = append(pieces, x[:n])
		x = x[n:]
	}
	return pieces
}
