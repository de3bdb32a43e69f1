package table_test

import (
	"fmt"
	"math"
	"math/rand/v2"
	"regexp"
	"slices"
	"strconv"
	"strings"
	"testing"

	"endonym/api"
	"endonym/table"
	"endonym/weigh"
)

// kinds is the document's table of kinds, with what stands at each place of a line and how many CODEs may follow.
var kinds = []struct {
	kind, family int
	words        []string // that must stand
	more         int      // CODEs that may stand behind them
}{
	{api.KValid, 1, []string{"valid", "SPAN"}, 0},
	{api.KIgnored, 1, []string{"ignored", "SPAN"}, 0},
	{api.KMapped, 1, []string{"mapped", "SPAN", "CODE"}, 23},
	{api.KShift, 1, []string{"shift", "SPAN", "CODE", "STEP"}, 0},
	{api.KDeviation, 1, []string{"deviation", "CODE"}, 24},
	{api.KClass, 2, []string{"class", "SPAN", "N"}, 0},
	{api.KDecomp, 3, []string{"decomp", "CODE", "CODE", "CODE"}, 0},
	{api.KOpens, 3, []string{"opens", "CODE", "CODE"}, 1},
	{api.KBidi, 4, []string{"bidi", "SPAN", "CLASS"}, 0},
	{api.KJoin, 5, []string{"join", "SPAN", "TYPE"}, 0},
	{api.KMark, 6, []string{"mark", "SPAN"}, 0},
	{api.KScript, 7, []string{"script", "SPAN", "NAME"}, 0},
	{api.KLooks, 8, []string{"looks", "CODE", "CODE"}, 23},
	{api.KWeight, 9, []string{"weight", "SPAN", "NUMBER"}, 0},
	{api.KMix, 10, []string{"mix", "NAME", "NAME", "NUMBER"}, 0},
}

// samples are right records, one or more of each kind, with their lines.
var samples = []struct {
	line string
	r    api.Record
}{
	{"valid 41..5A", api.Record{Kind: api.KValid, Lo: 0x41, Hi: 0x5A}},
	{"valid 0", api.Record{Kind: api.KValid}},
	{"valid 0..10FFFF", api.Record{Kind: api.KValid, Hi: 0x10FFFF}},
	{"ignored AD", api.Record{Kind: api.KIgnored, Lo: 0xAD, Hi: 0xAD}},
	{"ignored D800..DFFF", api.Record{Kind: api.KIgnored, Lo: 0xD800, Hi: 0xDFFF}},
	{"mapped 41 61", api.Record{Kind: api.KMapped, Lo: 0x41, Hi: 0x41, To: []rune{0x61}}},
	{"mapped 2100..2105 61 2F 63", api.Record{Kind: api.KMapped, Lo: 0x2100, Hi: 0x2105, To: []rune{0x61, 0x2F, 0x63}}},
	{"mapped 41" + strings.Repeat(" 10FFFF", 24), api.Record{Kind: api.KMapped, Lo: 0x41, Hi: 0x41, To: slices.Repeat([]rune{0x10FFFF}, 24)}},
	{"shift 41..5A 61 1", api.Record{Kind: api.KShift, Lo: 0x41, Hi: 0x5A, N: 1, To: []rune{0x61}}},
	{"shift 100..17E 101 2", api.Record{Kind: api.KShift, Lo: 0x100, Hi: 0x17E, N: 2, To: []rune{0x101}}},
	{"shift 7 0 64", api.Record{Kind: api.KShift, Lo: 7, Hi: 7, N: 64, To: []rune{0}}},
	{"deviation 200C", api.Record{Kind: api.KDeviation, Lo: 0x200C, Hi: 0x200C}},
	{"deviation DF 73 73", api.Record{Kind: api.KDeviation, Lo: 0xDF, Hi: 0xDF, To: []rune{0x73, 0x73}}},
	{"class 300..314 230", api.Record{Kind: api.KClass, Lo: 0x300, Hi: 0x314, N: 230}},
	{"class 345 1", api.Record{Kind: api.KClass, Lo: 0x345, Hi: 0x345, N: 1}},
	{"decomp C0 41 300", api.Record{Kind: api.KDecomp, Lo: 0xC0, Hi: 0xC0, To: []rune{0x41, 0x300}}},
	{"opens 340 300", api.Record{Kind: api.KOpens, Lo: 0x340, Hi: 0x340, To: []rune{0x300}}},
	{"opens 344 308 301", api.Record{Kind: api.KOpens, Lo: 0x344, Hi: 0x344, To: []rune{0x308, 0x301}}},
	{"bidi 5D0..5EA R", api.Record{Kind: api.KBidi, Lo: 0x5D0, Hi: 0x5EA, N: 1}},
	{"bidi 41 L", api.Record{Kind: api.KBidi, Lo: 0x41, Hi: 0x41}},
	{"join 628 D", api.Record{Kind: api.KJoin, Lo: 0x628, Hi: 0x628, N: 3}},
	{"join 41 U", api.Record{Kind: api.KJoin, Lo: 0x41, Hi: 0x41}},
	{"mark 300..36F", api.Record{Kind: api.KMark, Lo: 0x300, Hi: 0x36F}},
	{"script 41..5A Latn", api.Record{Kind: api.KScript, Lo: 0x41, Hi: 0x5A, Name: "Latn"}},
	{"looks 43E 6F", api.Record{Kind: api.KLooks, Lo: 0x43E, Hi: 0x43E, To: []rune{0x6F}}},
	{"weight 41 25e-2", api.Record{Kind: api.KWeight, Lo: 0x41, Hi: 0x41, Weight: 0.25}},
	{"weight 41..42 0", api.Record{Kind: api.KWeight, Lo: 0x41, Hi: 0x42}},
	{"weight 41 inf", api.Record{Kind: api.KWeight, Lo: 0x41, Hi: 0x41, Weight: math.Inf(1)}},
	{"mix Latn Cyrl 8", api.Record{Kind: api.KMix, Name: "Latn", Other: "Cyrl", Weight: 8}},
	{"mix Cyrl Latn 11258999068426242e-1", api.Record{Kind: api.KMix, Name: "Cyrl", Other: "Latn", Weight: 1125899906842624.25}},
}

var minusNought = math.Copysign(0, -1)

// records are the records of all samples.
func records() []api.Record {
	var l []api.Record
	for _, c := range samples {
		l = append(l, deep(c.r))
	}
	return l
}

// deep is a record that shares nothing.
func deep(r api.Record) api.Record {
	r.To = slices.Clone(r.To)
	return r
}

// modelScalar is DOC.md's word.
func modelScalar(n int) bool { return n >= 0 && n <= 0xD7FF || n >= 0xE000 && n <= 0x10FFFF }

func modelName(s string) bool {
	ok, _ := regexp.MatchString(`\A[A-Z][a-z]{3}\z`, s)
	return ok
}

// modelRight is the table of kinds and 6.1 word by word: each kind with the fields that it has.
func modelRight(r api.Record) api.Errno {
	span := r.Lo >= 0 && r.Hi <= 0x10FFFF && r.Lo <= r.Hi
	one := r.Lo == r.Hi && modelScalar(r.Lo)
	to := func(least, most int) bool {
		for _, c := range r.To {
			if !modelScalar(int(c)) {
				return false
			}
		}
		return len(r.To) >= least && len(r.To) <= most
	}
	n := func(least, most int) bool { return r.N >= least && r.N <= most }
	bare := r.Name == "" && r.Other == ""
	light := math.Float64bits(r.Weight) == 0
	heavy := light || r.Weight > 0
	var ok bool
	switch r.Kind {
	case 1, 2, 11:
		ok = span && to(0, 0) && n(0, 0) && bare && light
	case 3:
		ok = span && to(1, 24) && n(0, 0) && bare && light
	case 4:
		ok = span && to(1, 1) && n(1, 64) && bare && light
		if ok {
			a := int(r.To[0])
			b := a + r.Hi - r.Lo
			ok = modelScalar(b) && (b < 0xD800 || a > 0xDFFF)
		}
	case 5:
		ok = one && to(0, 24) && n(0, 0) && bare && light
	case 6:
		ok = span && to(0, 0) && n(1, 254) && bare && light
	case 7:
		ok = one && to(2, 2) && n(0, 0) && bare && light
	case 8:
		ok = one && to(1, 2) && n(0, 0) && bare && light
	case 9:
		ok = span && to(0, 0) && n(0, 10) && bare && light
	case 10:
		ok = span && to(0, 0) && n(0, 5) && bare && light
	case 12:
		ok = span && to(0, 0) && n(0, 0) && modelName(r.Name) && r.Other == "" && light
	case 13:
		ok = one && to(1, 24) && n(0, 0) && bare && light
	case 14:
		ok = span && to(0, 0) && n(0, 0) && bare && heavy
	case 15:
		ok = r.Lo == 0 && r.Hi == 0 && to(0, 0) && n(0, 0) && modelName(r.Name) && modelName(r.Other) && r.Name != r.Other && heavy
	default:
		return api.ErrKind
	}
	if !ok {
		return api.ErrField
	}
	return api.OK
}

// The values on both sides of every limit of every field.
var (
	edgeKinds   = []int{math.MinInt, -1, 0, 1, 2, 3, 4, 5, 6, 7, 8, 9, 10, 11, 12, 13, 14, 15, 16, 17, 255, 256, 257, 1 << 32, 1<<32 + 1, math.MaxInt}
	edgePoints  = []int{math.MinInt, math.MinInt + 0x41, -1 << 32, -1, 0, 1, 0x41, 0xD7FE, 0xD7FF, 0xD800, 0xDFFF, 0xE000, 0xE001, 0x10FFFE, 0x10FFFF, 0x110000, 1 << 31, 1 << 32, 1<<32 + 0x41, math.MaxInt}
	edgeNumbers = []int{math.MinInt, -1, 0, 1, 2, 4, 5, 6, 9, 10, 11, 63, 64, 65, 253, 254, 255, 256, 257, 1 << 32, 1<<32 + 1, math.MaxInt}
	edgeNames   = []string{"", "Latn", "Cyrl", "latn", "LATN", "Lat", "Latin", "Lat1", "\x00", " ", "Latn ", "L\u00E4tn", "x"}
	edgeWeights = []float64{0, minusNought, 1, -1, 5e-324, -5e-324, math.MaxFloat64, math.Inf(1), math.Inf(-1), math.NaN(), math.Float64frombits(0xFFF8000000000000), math.Float64frombits(0x7FF0000000000001), 0.25}
)

func edgeTargets() [][]rune {
	l := [][]rune{nil, {}, {0}, {0x61}, {0xD7FF}, {0xD800}, {0xDFFF}, {0xE000}, {0x10FFFF}, {0x110000}, {-1}, {math.MinInt32}, {math.MaxInt32}, {1, 2}, {1, 2, 3}, {0xD800, 1}, {1, 0xD800}, {1, -1}}
	for _, n := range []int{23, 24, 25, 26} {
		good := slices.Repeat([]rune{0x10FFFF}, n)
		bad := slices.Clone(good)
		bad[n-1] = 0xDFFF
		l = append(l, good, bad)
	}
	return l
}

// twists calls f with r and with each record that parts from it in one field, which is at an edge (or Lo and Hi both, alike).
func twists(r api.Record, f func(api.Record)) {
	twist := func(set func(*api.Record)) {
		x := deep(r)
		set(&x)
		f(x)
	}
	f(deep(r))
	for _, v := range edgeKinds {
		twist(func(x *api.Record) { x.Kind = v })
	}
	for _, v := range edgePoints {
		twist(func(x *api.Record) { x.Lo = v })
		twist(func(x *api.Record) { x.Hi = v })
		twist(func(x *api.Record) { x.Lo, x.Hi = v, v })
	}
	for _, v := range edgeNumbers {
		twist(func(x *api.Record) { x.N = v })
	}
	for _, v := range edgeTargets() {
		twist(func(x *api.Record) { x.To = v })
	}
	for _, v := range edgeNames {
		twist(func(x *api.Record) { x.Name = v })
		twist(func(x *api.Record) { x.Other = v })
	}
	for _, v := range edgeWeights {
		twist(func(x *api.Record) { x.Weight = v })
	}
}

func TestRightOfTwists(t *testing.T) {
	for _, c := range samples {
		if e := table.Right(c.r); e != api.OK {
			t.Errorf("6.1: Right(%v): %v, want OK", c.r, e)
		}
		twists(c.r, func(r api.Record) {
			twists(r, func(r api.Record) {
				if e, want := table.Right(r), modelRight(r); e != want {
					t.Fatalf("6.1: Right(%+v): %v, want %v", r, e, want)
				}
			})
		})
	}
}

func TestRightOfShifts(t *testing.T) {
	for _, c := range []struct {
		lo, hi int
		to     rune
		e      api.Errno
	}{
		{0, 0, 0xD7FF, api.OK}, {0, 0, 0xD800, api.ErrField}, {0, 0, 0xDFFF, api.ErrField}, {0, 0, 0xE000, api.OK}, {0, 0, 0x10FFFF, api.OK}, {0, 0, 0x110000, api.ErrField}, {0, 0, -1, api.ErrField},
		{5, 6, 0xD7FE, api.OK}, {5, 6, 0xD7FF, api.ErrField}, {5, 6, 0xDFFF, api.ErrField}, {5, 6, 0xE000, api.OK}, {5, 6, 0x10FFFE, api.OK}, {5, 6, 0x10FFFF, api.ErrField},
		{0, 0x801, 0xD7FF, api.ErrField}, {0, 0x800, 0xD7FF, api.ErrField}, {0, 0x800, 0xD800, api.ErrField}, {0, 0xE000, 0, api.ErrField}, {0, 0xD7FF, 0, api.OK}, {0, 0xD800, 0, api.ErrField}, {0, 0x10FFFF, 0, api.ErrField}, {0, 0x10FFFF - 0xE000, 0xE000, api.OK}, {0, 0x10FFFF - 0xE000 + 1, 0xE000, api.ErrField},
		{0xD800, 0xDFFF, 0x61, api.OK}, {0x10FFFF, 0x10FFFF, 0x10FFFF, api.OK}, {0x10FFFF, 0x110000, 1, api.ErrField}, {0, 0x10FFFF, math.MaxInt32, api.ErrField}, {6, 5, 0x61, api.ErrField}, {5, 5, math.MinInt32, api.ErrField},
	} {
		for _, n := range []int{1, 2, 64} {
			r := api.Record{Kind: api.KShift, Lo: c.lo, Hi: c.hi, N: n, To: []rune{c.to}}
			if e := table.Right(r); e != c.e {
				t.Errorf("6.1: Right of a shift %X..%X %X %d: %v, want %v", c.lo, c.hi, c.to, n, e, c.e)
			}
		}
	}
	r := api.Record{Kind: api.KShift, Lo: 0, Hi: 0xD7FF, N: 1, To: []rune{0}}
	for lo := 0; lo <= 0x110000; lo += 0x3FF {
		for hi := 0; hi <= 0x110000; hi += 0x7FF {
			for _, to := range []rune{0, 0x1000, 0xD7FF, 0xE000, 0x10FFFF} {
				r.Lo, r.Hi, r.To[0] = lo, hi, to
				if e, want := table.Right(r), modelRight(r); e != want {
					t.Fatalf("6.1: Right(%+v): %v, want %v", r, e, want)
				}
			}
		}
	}
}

func TestFamily(t *testing.T) {
	want := map[int]int{}
	for _, k := range kinds {
		want[k.kind] = k.family
	}
	for _, kind := range append(slices.Clone(edgeKinds), edgeNumbers...) {
		if f := table.Family(kind); f != want[kind] {
			t.Errorf("6.2: Family(%d): %d, want %d", kind, f, want[kind])
		}
	}
}

// modelSpeaks is 6.2 word by word: a shift's code points are counted off, so its numbers must be small.
func modelSpeaks(r api.Record, c int) bool {
	if c < 0 || c > 0x10FFFF || c < r.Lo || c > r.Hi {
		return false
	}
	if r.Kind != api.KShift {
		return true
	}
	if r.N < 1 {
		return false
	}
	for x := r.Lo; x <= c; x += r.N {
		if x == c {
			return true
		}
	}
	return false
}

func modelFind(l []api.Record, family int, c rune) int {
	for i, r := range l {
		for _, k := range kinds {
			if k.kind == r.Kind && k.family == family && family != 10 && modelSpeaks(r, int(c)) {
				return i
			}
		}
	}
	return -1
}

func TestFindOfAll(t *testing.T) {
	r := rand.New(rand.NewPCG(6, 2))
	for range 3000 {
		var l []api.Record
		for range r.IntN(8) {
			x := api.Record{Kind: r.IntN(18) - 1, Lo: r.IntN(24) - 4, N: r.IntN(6) - 1}
			x.Hi = x.Lo + r.IntN(12) - 2
			l = append(l, x)
		}
		for family := -1; family <= 12; family++ {
			for c := rune(-4); c < 32; c++ {
				if at, want := table.Find(l, family, c), modelFind(l, family, c); at != want {
					t.Fatalf("6.2: Find(%+v, %d, %X): %d, want %d", l, family, c, at, want)
				}
			}
		}
	}
}

func TestFindOfWhatIsNotRight(t *testing.T) {
	const far = math.MaxInt
	shift := func(lo, hi, n int) []api.Record { return []api.Record{{Kind: api.KShift, Lo: lo, Hi: hi, N: n}} }
	plain := func(kind, lo, hi int) []api.Record { return []api.Record{{Kind: kind, Lo: lo, Hi: hi}} }
	for _, c := range []struct {
		l      []api.Record
		family int
		c      rune
		at     int
	}{
		{nil, 1, 0, -1},
		{plain(api.KValid, math.MinInt, far), 1, 0x41, 0}, {plain(api.KValid, math.MinInt, far), 1, 0x10FFFF, 0}, {plain(api.KValid, math.MinInt, far), 1, 0, 0},
		{plain(api.KValid, math.MinInt, far), 1, 0x110000, -1}, {plain(api.KValid, math.MinInt, far), 1, -1, -1}, {plain(api.KValid, math.MinInt, far), 1, math.MaxInt32, -1}, {plain(api.KValid, math.MinInt, far), 1, math.MinInt32, -1},
		{plain(api.KValid, 0x110000, 0x110000), 1, 0x110000, -1}, {plain(api.KValid, -1, -1), 1, -1, -1}, {plain(api.KValid, 5, 4), 1, 5, -1}, {plain(api.KValid, 5, 4), 1, 4, -1},
		{plain(api.KValid, 1<<32, 1<<32+0x50), 1, 0x41, -1}, {plain(api.KValid, 0xD800, 0xDFFF), 1, 0xD900, 0},
		{plain(api.KDeviation, 5, 9), 1, 7, 0}, {plain(api.KLooks, 5, 9), 8, 7, 0}, {plain(api.KWeight, 5, 9), 9, 9, 0}, {plain(api.KScript, 5, 9), 7, 5, 0}, {plain(api.KClass, 5, 9), 2, 6, 0}, {plain(api.KClass, 5, 9), 1, 6, -1},
		{plain(api.KMix, 0, 9), 10, 0, -1}, {plain(api.KMix, 0, 9), 10, 5, -1}, {plain(0, 0, 9), 0, 0, -1}, {plain(16, 0, 9), 0, 0, -1}, {plain(-1, 0, 9), 0, 0, -1}, {plain(16, 0, 9), 11, 0, -1}, {plain(16, 0, 9), 16, 0, -1}, {plain(api.KValid, 0, 9), -1, 0, -1}, {plain(api.KValid, 0, 9), 1 << 32, 0, -1}, {plain(api.KValid, 0, 9), 1<<32 + 1, 0, -1}, {plain(api.KValid, 0, 9), math.MinInt, 0, -1}, {plain(api.KValid, 0, 9), far, 0, -1},
		{shift(5, 9, 0), 1, 5, -1}, {shift(5, 9, -1), 1, 5, -1}, {shift(5, 9, math.MinInt), 1, 5, -1}, {shift(5, 9, 100), 1, 5, 0}, {shift(5, 9, 100), 1, 6, -1}, {shift(5, 105, 100), 1, 105, 0}, {shift(5, 104, 100), 1, 105, -1}, {shift(5, far, far), 1, 5, 0}, {shift(5, far, far), 1, 6, -1},
		{shift(-3, 9, 4), 1, 1, 0}, {shift(-3, 9, 4), 1, 0, -1}, {shift(-3, 9, 4), 1, 9, 0},
		{shift(math.MinInt, far, 2), 1, 0x40, 0}, {shift(math.MinInt, far, 2), 1, 0x41, -1}, {shift(math.MinInt, far, 3), 1, 0, -1}, {shift(math.MinInt, far, 3), 1, 1, 0}, {shift(math.MinInt, far, 3), 1, 4, 0}, {shift(math.MinInt, far, 3), 1, 2, -1},
		{shift(math.MinInt+1, far, far), 1, 0, 0}, {shift(math.MinInt+1, far, far), 1, 1, -1}, {shift(-far, far, 1), 1, 0x10FFFF, 0},
	} {
		if at := table.Find(c.l, c.family, c.c); at != c.at {
			t.Errorf("6.2: Find(%+v, %d, %X): %d, want %d", c.l, c.family, c.c, at, c.at)
		}
	}
}

func TestFindIsTheFirst(t *testing.T) {
	l := read(t, "valid 42\nclass 41 9\nshift 40..44 60 2\nignored 40..41\nvalid 40..50")
	for c, want := range map[rune]int{0x3F: -1, 0x40: 2, 0x41: 3, 0x42: 0, 0x43: 4, 0x44: 2, 0x45: 4, 0x50: 4, 0x51: -1} {
		if at := table.Find(l, 1, c); at != want {
			t.Errorf("6.2: Find of %X: %d, want %d", c, at, want)
		}
	}
}

// modelCheck is 6.3 word by word, for records whose numbers are small: what each family's records speak of, one by one.
func modelCheck(l []api.Record) (int, api.Errno) {
	if len(l) > 4096 {
		return 0, api.ErrMany
	}
	for i, r := range l {
		if e := modelRight(r); e != api.OK {
			return i, e
		}
	}
	said := map[string]bool{}
	for i, r := range l {
		for _, s := range modelSaid(r) {
			if said[s] {
				return i, api.ErrTwice
			}
		}
		for _, s := range modelSaid(r) {
			said[s] = true
		}
	}
	return 0, api.OK
}

func modelSaid(r api.Record) []string {
	if r.Kind == api.KMix {
		return []string{r.Name + " " + r.Other, r.Other + " " + r.Name}
	}
	var l []string
	for c := r.Lo; c <= r.Hi; c++ {
		if modelSpeaks(r, c) {
			l = append(l, fmt.Sprint(table.Family(r.Kind), " ", c))
		}
	}
	return l
}

// drawnRecord is a right record of small numbers, as a rule; sometimes one that is not right.
func drawnRecord(r *rand.Rand, points int) api.Record {
	x := deep(samples[r.IntN(len(samples))].r)
	if r.IntN(3) == 0 {
		x = api.Record{Kind: api.KShift, N: 1 + r.IntN(7), To: []rune{0x61}}
	}
	scripts := []string{"Latn", "Cyrl", "Grek", "Armn"}
	if x.Kind == api.KMix {
		x.Name, x.Other = scripts[r.IntN(4)], scripts[r.IntN(4)]
		return x
	}
	x.Lo = r.IntN(points)
	x.Hi = x.Lo
	if !slices.Contains([]int{api.KDeviation, api.KDecomp, api.KOpens, api.KLooks}, x.Kind) {
		x.Hi += r.IntN(1 + points/4)
	}
	return x
}

func TestCheckOfAll(t *testing.T) {
	r := rand.New(rand.NewPCG(6, 3))
	met := map[api.Errno]int{}
	for i := range 6000 {
		var l []api.Record
		for range r.IntN(7) {
			l = append(l, drawnRecord(r, 8+i%200))
		}
		at, e := table.Check(l)
		want, wantE := modelCheck(l)
		if at != want || e != wantE {
			t.Fatalf("6.3: Check(%+v): %d, %v, want %d, %v", l, at, e, want, wantE)
		}
		met[e]++
		if e == api.OK {
			checkOnce(t, l)
		}
	}
	if met[api.OK] < 500 || met[api.ErrTwice] < 500 || met[api.ErrField] < 100 {
		t.Errorf("the draw tests too little: %v", met)
	}
}

// checkOnce is 6.9: what Find tells from the list's first record on is what it tells from behind it on, or one of both is -1.
func checkOnce(t *testing.T, l []api.Record) {
	t.Helper()
	for family := 1; family <= 9; family++ {
		for c := rune(0); c < 300; c++ {
			n := 0
			for i := range l {
				if table.Find(l[i:i+1], family, c) == 0 {
					n++
				}
			}
			if n > 1 {
				t.Fatalf("6.9: Check takes %+v, of which %d records of the family %d speak of %X", l, n, family, c)
			}
		}
	}
}

// TestCheckOfShifts lays two shifts over each other in all ways, with small numbers and at the far end.
func TestCheckOfShifts(t *testing.T) {
	for _, base := range []int{0, 0x10FFC0} {
		for n := 1; n <= 8; n++ {
			for m := 1; m <= 8; m++ {
				for from := range 10 {
					for size := 0; size < 40; size += 3 {
						l := []api.Record{
							{Kind: api.KShift, Lo: base + 3, Hi: base + 21, N: n, To: []rune{1}},
							{Kind: api.KShift, Lo: base + from, Hi: base + from + size, N: m, To: []rune{1}},
						}
						at, e := table.Check(l)
						if want, wantE := modelCheck(l); at != want || e != wantE {
							t.Fatalf("6.3: Check(%+v): %d, %v, want %d, %v", l, at, e, want, wantE)
						}
					}
				}
			}
		}
	}
}

// TestCheckOfLongShifts asks pairs of steps that meet late, in the last code point of the longest way, or one behind it.
func TestCheckOfLongShifts(t *testing.T) {
	for _, c := range []struct{ n, m int }{{64, 63}, {63, 64}, {64, 64}, {64, 62}, {61, 59}, {64, 1}, {2, 64}, {63, 62}} {
		for from := range 64 {
			meet := -1
			for x := from; x < from+64*64; x += c.m {
				if x >= 10 && (x-10)%c.n == 0 {
					meet = x
					break
				}
			}
			hi := meet
			if meet < 0 {
				hi = from + 0xB000
			}
			l := []api.Record{{Kind: api.KShift, Lo: 10, Hi: 0xC000, N: c.n, To: []rune{1}}, {Kind: api.KShift, Lo: from, Hi: hi, N: c.m, To: []rune{1}}}
			if at, e := table.Check(l); meet >= 0 && (at != 1 || e != api.ErrTwice) || meet < 0 && e != api.OK {
				t.Fatalf("6.3: Check(%+v): %d, %v; they meet at %X", l, at, e, meet)
			}
			if l[1].Hi--; meet > from {
				if at, e := table.Check(l); at != 0 || e != api.OK {
					t.Fatalf("6.3: Check(%+v): %d, %v; they would meet one behind the end", l, at, e)
				}
			}
		}
	}
}

func TestCheckExamples(t *testing.T) {
	for _, c := range []struct {
		s  string
		at int
		e  api.Errno
	}{
		{"", 0, api.OK}, {"valid 41", 0, api.OK},
		{"valid 41..43\nignored 43", 1, api.ErrTwice}, {"valid 41..43\nignored 44", 0, api.OK}, {"valid 41..43\nignored 40", 0, api.OK}, {"valid 41..43\nignored 40..41", 1, api.ErrTwice}, {"valid 41..43\nignored 42", 1, api.ErrTwice}, {"valid 42\nignored 41..43", 1, api.ErrTwice}, {"valid 41..43\nvalid 41..43", 1, api.ErrTwice}, {"valid 0\nvalid 0", 1, api.ErrTwice}, {"valid 10FFFF\nvalid 0..10FFFF", 1, api.ErrTwice},
		{"valid 41\nmapped 41 61", 1, api.ErrTwice}, {"valid 41\nshift 41 61 1", 1, api.ErrTwice}, {"valid 41\ndeviation 41", 1, api.ErrTwice}, {"decomp 41 42 43\nopens 41 42", 1, api.ErrTwice}, {"class 41 1\nclass 41 1", 1, api.ErrTwice}, {"bidi 41 L\nbidi 41 R", 1, api.ErrTwice}, {"join 41 U\njoin 41 D", 1, api.ErrTwice}, {"mark 41\nmark 41", 1, api.ErrTwice}, {"script 41 Latn\nscript 41 Cyrl", 1, api.ErrTwice}, {"looks 41 42\nlooks 41 43", 1, api.ErrTwice}, {"weight 41 0\nweight 41 1", 1, api.ErrTwice},
		{"valid 41\nclass 41 1\nopens 41 42\nbidi 41 R\njoin 41 R\nmark 41\nscript 41 Latn\nlooks 41 42\nweight 41 1\nmix Latn Cyrl 1", 0, api.OK},
		{"shift 100..110 200 2\nvalid 101", 0, api.OK}, {"shift 100..110 200 2\nvalid 101..102", 1, api.ErrTwice}, {"valid 101..102\nshift 100..110 200 2", 1, api.ErrTwice}, {"shift 100..110 200 2\nshift 101..10F 300 2", 0, api.OK}, {"shift 100..111 200 2\nvalid 111", 0, api.OK}, {"shift 100..111 200 2\nvalid 110", 1, api.ErrTwice}, {"shift 100..110 200 2\nshift 101..10F 300 3", 1, api.ErrTwice}, {"shift 100..110 200 2\nshift 101..103 300 3", 0, api.OK},
		{"mix Latn Cyrl 8\nmix Cyrl Latn 9", 1, api.ErrTwice}, {"mix Latn Cyrl 8\nmix Latn Cyrl 8", 1, api.ErrTwice}, {"mix Latn Cyrl 8\nmix Latn Grek 8\nmix Cyrl Grek 8", 0, api.OK}, {"mix Latn Cyrl 8\nmix Latn Grek 8\nmix Grek Latn 8\nmix Cyrl Latn 8", 2, api.ErrTwice},
		{"valid 41\nvalid 42\nmix Latn Cyrl 1\nvalid 43\nmix Cyrl Latn 1\nvalid 41", 4, api.ErrTwice}, {"valid 1\nvalid 5\nvalid 3\nvalid 5\nvalid 1", 3, api.ErrTwice},
	} {
		if at, e := table.Check(read(t, c.s)); at != c.at || e != c.e {
			t.Errorf("6.3: Check of %q: %d, %v, want %d, %v", c.s, at, e, c.at, c.e)
		}
	}
}

func TestCheckOrder(t *testing.T) {
	valid := api.Record{Kind: api.KValid, Lo: 1, Hi: 1}
	for _, c := range []struct {
		l  []api.Record
		at int
		e  api.Errno
	}{
		{[]api.Record{valid, valid, {Kind: 77}}, 2, api.ErrKind},
		{[]api.Record{valid, valid, {Kind: api.KValid, Lo: 1}}, 2, api.ErrField},
		{[]api.Record{{Kind: api.KValid, Lo: 1}, {Kind: 77}}, 0, api.ErrField},
		{[]api.Record{valid, {Kind: 0}, {Kind: api.KValid, Lo: 1}}, 1, api.ErrKind},
		{[]api.Record{valid, valid, valid}, 1, api.ErrTwice},
		{make([]api.Record, 4096), 0, api.ErrKind}, {make([]api.Record, 4097), 0, api.ErrMany},
	} {
		if at, e := table.Check(c.l); at != c.at || e != c.e {
			t.Errorf("6.3: Check of %d records: %d, %v, want %d, %v", len(c.l), at, e, c.at, c.e)
		}
	}
	l := apart(4097)
	if at, e := table.Check(l[:4096]); at != 0 || e != api.OK {
		t.Errorf("6.3: Check of 4,096 records: %d, %v", at, e)
	}
	if at, e := table.Check(l); at != 0 || e != api.ErrMany {
		t.Errorf("6.3: Check of 4,097 records: %d, %v", at, e)
	}
	l[4095].Lo = l[4094].Hi
	if at, e := table.Check(l[:4096]); at != 4095 || e != api.ErrTwice {
		t.Errorf("6.3: Check of 4,096 records, the last one said already: %d, %v", at, e)
	}
	l[4095].Lo = -1
	if at, e := table.Check(l[:4096]); at != 4095 || e != api.ErrField {
		t.Errorf("6.3: Check of 4,096 records, the last one not right: %d, %v", at, e)
	}
}

// apart is n records that share nothing.
func apart(n int) []api.Record {
	var l []api.Record
	for i := range n {
		l = append(l, api.Record{Kind: api.KValid, Lo: 8 * i, Hi: 8*i + 7})
	}
	return l
}

func read(t *testing.T, s string) []api.Record {
	t.Helper()
	l, at, e := table.Parse(s)
	if e != api.OK || at != (api.Place{}) {
		t.Fatalf("6.5: Parse(%q): %v, %v", s, at, e)
	}
	return l
}

func TestLineOfEachKind(t *testing.T) {
	for _, c := range samples {
		if s, e := table.Line(c.r); s != c.line || e != api.OK {
			t.Errorf("6.4: Line(%+v): %q, %v, want %q", c.r, s, e, c.line)
		}
	}
	for n, w := range strings.Fields("L R AL AN EN ES CS ET ON BN NSM") {
		if s, e := table.Line(api.Record{Kind: api.KBidi, Lo: 1, Hi: 2, N: n}); s != "bidi 1..2 "+w || e != api.OK {
			t.Errorf("6.4: Line of the class %d: %q, %v", n, s, e)
		}
	}
	for n, w := range strings.Fields("U R L D C T") {
		if s, e := table.Line(api.Record{Kind: api.KJoin, Lo: 1, Hi: 2, N: n}); s != "join 1..2 "+w || e != api.OK {
			t.Errorf("6.4: Line of the joining type %d: %q, %v", n, s, e)
		}
	}
	for n := 1; n <= 254; n++ {
		if s, e := table.Line(api.Record{Kind: api.KClass, Lo: 1, Hi: 1, N: n}); s != "class 1 "+strconv.Itoa(n) || e != api.OK {
			t.Errorf("6.4: Line of the class %d: %q, %v", n, s, e)
		}
	}
}

// TestLineOfTwists asks that Line and Print refuse what Right refuses, and write what is read as it was.
func TestLineOfTwists(t *testing.T) {
	for _, c := range samples {
		twists(c.r, func(r api.Record) {
			s, e := table.Line(r)
			p, pe := table.Print([]api.Record{r})
			want := modelRight(r)
			if e != want || pe != want || want != api.OK && (s != "" || p != "") || want == api.OK && p != s+"\n" {
				t.Fatalf("6.4: Line(%+v): %q, %v; Print: %q, %v; want %v", r, s, e, p, pe, want)
			}
			if want == api.OK && !table.Same(read(t, s), []api.Record{r}) {
				t.Fatalf("6.7: Line(%+v) is %q, which is read as %+v", r, s, read(t, s))
			}
		})
	}
}

// filled is records whose text has just so many bytes (of a size that leaves one to six digits for the last line).
func filled(size int) []api.Record {
	long := api.Record{Kind: api.KMapped, Lo: 0x10FFFE, Hi: 0x10FFFF, To: slices.Repeat([]rune{0x10FFFF}, 24)}
	const longSize = len("mapped 10FFFE..10FFFF") + 24*len(" 10FFFF") + 1
	l := slices.Repeat([]api.Record{long}, size/longSize-1)
	left := size - len(l)*longSize
	for ; left > 13; left -= len("mark 0") + 1 {
		l = append(l, api.Record{Kind: api.KMark})
	}
	last := 1 << (4 * (left - len("mark 0") - 1)) // so many noughts behind its first digit as bytes are left
	l = append(l, api.Record{Kind: api.KMark, Lo: last, Hi: last})
	return l
}

func TestPrintBounds(t *testing.T) {
	l := filled(262144)
	s, e := table.Print(l)
	if len(s) != 262144 || e != api.OK {
		t.Fatalf("6.4: Print of 262,144 bytes: %d bytes, %v", len(s), e)
	}
	if !table.Same(read(t, s), l) {
		t.Errorf("6.7: a text of 262,144 bytes is not read as it was")
	}
	if got, _, _ := table.Parse(s[:len(s)-1]); !table.Same(got, l) {
		t.Errorf("6.5: a text without its last newline is not read alike")
	}
	more := filled(262145)
	if s, e := table.Print(more[1:]); len(s) != 262145-190 || e != api.OK {
		t.Fatalf("6.4: Print of 190 bytes less: %d bytes, %v", len(s), e)
	}
	if s, e := table.Print(more); s != "" || e != api.ErrLong {
		t.Errorf("6.4: Print of 262,145 bytes: %d bytes, %v", len(s), e)
	}
	if s, e := table.Print(append(more, api.Record{Kind: 77})); s != "" || e != api.ErrKind {
		t.Errorf("6.4: Print of 262,145 bytes and a record that is not right: %d bytes, %v", len(s), e)
	}
	if s, e := table.Print(append(more, api.Record{Kind: api.KMark, Hi: -1}, api.Record{Kind: 77})); s != "" || e != api.ErrField {
		t.Errorf("6.4: Print of 262,145 bytes and two records that are not right: %d bytes, %v", len(s), e)
	}
	many := slices.Repeat([]api.Record{{Kind: api.KValid, Lo: 1, Hi: 1}}, 4097)
	if s, e := table.Print(many[:4096]); s != strings.Repeat("valid 1\n", 4096) || e != api.OK {
		t.Errorf("6.4: Print of 4,096 records, all alike: %d bytes, %v", len(s), e)
	}
	if s, e := table.Print(many); s != "" || e != api.ErrMany {
		t.Errorf("6.4: Print of 4,097 records: %d bytes, %v", len(s), e)
	}
	many[0].Kind = 0
	if s, e := table.Print(many); s != "" || e != api.ErrMany {
		t.Errorf("6.4: Print of 4,097 records, one not right: %d bytes, %v", len(s), e)
	}
	if s, e := table.Print(nil); s != "" || e != api.OK {
		t.Errorf("6.4: Print of none: %q, %v", s, e)
	}
}

// The forms of words, as chapters 5 and 6 say them.
var (
	codeForm  = regexp.MustCompile(`\A(0|[1-9A-F][0-9A-F]{0,4}|10[0-9A-F]{4})\z`)
	spanForm  = regexp.MustCompile(`\A(0|[1-9A-F][0-9A-F]{0,4}|10[0-9A-F]{4})\.\.(0|[1-9A-F][0-9A-F]{0,4}|10[0-9A-F]{4})\z`)
	wholeForm = regexp.MustCompile(`\A(0|[1-9][0-9]{0,8})\z`)
	classForm = strings.Fields("L R AL AN EN ES CS ET ON BN NSM")
	typeForm  = strings.Fields("U R L D C T")
)

func hex(s string) int {
	n, err := strconv.ParseInt(s, 16, 64)
	if err != nil {
		panic(err)
	}
	return int(n)
}

// modelWord fills the field of a word that stands at a place, and is whether it may stand there.
func modelWord(r *api.Record, place int, form, w string) bool {
	switch form {
	case "SPAN":
		if codeForm.MatchString(w) {
			r.Lo, r.Hi = hex(w), hex(w)
			return true
		}
		m := spanForm.FindStringSubmatch(w)
		if m == nil || hex(m[1]) >= hex(m[2]) {
			return false
		}
		r.Lo, r.Hi = hex(m[1]), hex(m[2])
		return true
	case "CODE":
		if !codeForm.MatchString(w) {
			return false
		}
		if place == 1 {
			r.Lo, r.Hi = hex(w), hex(w)
		} else {
			r.To = append(r.To, rune(hex(w)))
		}
		return true
	case "STEP", "N":
		r.N, _ = strconv.Atoi(w)
		return wholeForm.MatchString(w)
	case "CLASS":
		r.N = slices.Index(classForm, w)
		return r.N >= 0
	case "TYPE":
		r.N = slices.Index(typeForm, w)
		return r.N >= 0
	case "NAME":
		if place == 1 || r.Kind == api.KScript {
			r.Name = w
		} else {
			r.Other = w
		}
		return modelName(w)
	case "NUMBER":
		a, e := weigh.Parse(w)
		r.Weight = a
		return e == api.OK
	}
	return false
}

var wordForm = regexp.MustCompile(`[^ \t\r]+`)

// modelLine is the four errors of 6.5 in their order, for one line.
func modelLine(line string, ahead int) (api.Record, bool, int, api.Errno) {
	if len(line) > 400 {
		return api.Record{}, false, 400, api.ErrLong
	}
	said, _, _ := strings.Cut(line, "#")
	words := wordForm.FindAllStringIndex(said, -1)
	if len(words) == 0 {
		return api.Record{}, false, 0, api.OK
	}
	if ahead == 4096 {
		return api.Record{}, false, words[0][0], api.ErrMany
	}
	var r api.Record
	var forms []string
	least := 0
	for i, at := range words {
		w := said[at[0]:at[1]]
		if i == 0 {
			for _, k := range kinds {
				if k.words[0] == w {
					r.Kind, least = k.kind, len(k.words)
					forms = append(slices.Clone(k.words), slices.Repeat([]string{"CODE"}, k.more)...)
				}
			}
		}
		if r.Kind == 0 || i >= len(forms) || i > 0 && !modelWord(&r, i, forms[i], w) {
			return api.Record{}, false, at[0], api.ErrWord
		}
	}
	if len(words) < least {
		return api.Record{}, false, len(said), api.ErrWord
	}
	if modelRight(r) != api.OK {
		return api.Record{}, false, words[0][0], api.ErrField
	}
	return r, true, 0, api.OK
}

// modelParse is 6.5 word by word.
func modelParse(s string) ([]api.Record, api.Place, api.Errno) {
	if len(s) > 262144 {
		return nil, api.Place{At: 0, Line: 1, Column: 1}, api.ErrLong
	}
	var l []api.Record
	start, number := 0, 1
	for start < len(s) {
		line, _, _ := strings.Cut(s[start:], "\n")
		r, found, at, e := modelLine(line, len(l))
		if e != api.OK {
			return nil, api.Place{At: start + at, Line: number, Column: at + 1}, e
		}
		if found {
			l = append(l, r)
		}
		start += len(line) + 1
		number++
	}
	return l, api.Place{}, api.OK
}

func checkParse(t *testing.T, s string) api.Errno {
	t.Helper()
	l, at, e := table.Parse(s)
	want, wantAt, wantE := modelParse(s)
	if at != wantAt || e != wantE || !table.Same(l, want) {
		t.Fatalf("6.5: Parse(%q): %+v, %v, %v, want %+v, %v, %v", s, l, at, e, want, wantAt, wantE)
	}
	return e
}

func TestParseOfEachKind(t *testing.T) {
	for _, c := range samples {
		for _, s := range []string{c.line, c.line + "\n", " \t" + c.line + " \r\n", "\n\n# x\n" + c.line + "# y\n\n", "#\n" + strings.ReplaceAll(c.line, " ", "\t \r")} {
			if l := read(t, s); !table.Same(l, []api.Record{c.r}) {
				t.Errorf("6.5: Parse(%q): %+v, want %+v", s, l, c.r)
			}
			checkParse(t, s)
		}
	}
	for _, s := range []string{"", "\n", "\n\n", " ", "\t\r\n#", "# valid 41", "#valid\n # x\n"} {
		if l := read(t, s); len(l) != 0 {
			t.Errorf("6.5: Parse(%q): %+v, want none", s, l)
		}
	}
}

func TestParseExamples(t *testing.T) {
	for _, c := range []struct {
		s  string
		at int
		e  api.Errno
	}{
		{"class 300 0", 0, api.ErrField}, {"class 300 255", 0, api.ErrField}, {"class 300 256", 0, api.ErrField}, {"class 300 999999999", 0, api.ErrField}, {"class 300 1000000000", 10, api.ErrWord}, {"class 300 x", 10, api.ErrWord}, {"class 300 -1", 10, api.ErrWord}, {"class 300 -0", 10, api.ErrWord}, {"class 300 01", 10, api.ErrWord}, {"class 300", 9, api.ErrWord}, {"class 300 # 9", 10, api.ErrWord}, {"class 300 1 2", 12, api.ErrWord}, {"class", 5, api.ErrWord}, {"class  \t", 8, api.ErrWord},
		{"bidi 5D0 Q", 9, api.ErrWord}, {"bidi 5D0 r", 9, api.ErrWord}, {"bidi 5D0 1", 9, api.ErrWord}, {"bidi 5D0 LR", 9, api.ErrWord}, {"bidi 5D0 D", 9, api.ErrWord}, {"bidi 5D0", 8, api.ErrWord}, {"bidi 5D0 L R", 11, api.ErrWord}, {"join 628 NSM", 9, api.ErrWord}, {"join 628 AL", 9, api.ErrWord}, {"join 628 0", 9, api.ErrWord}, {"join 628 d", 9, api.ErrWord},
		{"deviation 41..42 61", 10, api.ErrWord}, {"deviation", 9, api.ErrWord}, {"deviation D800", 0, api.ErrField}, {"deviation 41 D800", 0, api.ErrField}, {"deviation 41 x", 13, api.ErrWord},
		{"mapped 41", 9, api.ErrWord}, {"mapped", 6, api.ErrWord}, {"mapped 41 61..62", 10, api.ErrWord}, {"mapped 41 DFFF", 0, api.ErrField}, {"mapped 41 1 2 3 D800", 0, api.ErrField}, {"mapped 42..41 61", 7, api.ErrWord}, {"mapped 41..41 61", 7, api.ErrWord},
		{"Valid 41", 0, api.ErrWord}, {"valid", 5, api.ErrWord}, {"valid 41 42", 9, api.ErrWord}, {"valid 041", 6, api.ErrWord}, {"valid 110000", 6, api.ErrWord}, {"valid 41,42", 6, api.ErrWord}, {"validated 41", 0, api.ErrWord}, {"vali 41", 0, api.ErrWord}, {"valid41", 0, api.ErrWord}, {"1 41", 0, api.ErrWord}, {"\xFF", 0, api.ErrWord}, {"\x00", 0, api.ErrWord}, {"valid\v41", 0, api.ErrWord}, {"valid\u00A041", 0, api.ErrWord}, {"\uFEFFvalid 41", 0, api.ErrWord},
		{"shift 41..5A 61", 15, api.ErrWord}, {"shift 41..5A", 12, api.ErrWord}, {"shift 41..5A 61 -1", 16, api.ErrWord}, {"shift 41..5A 61 0", 0, api.ErrField}, {"shift 41..5A 61 65", 0, api.ErrField}, {"shift 41..5A 61 1 1", 18, api.ErrWord}, {"shift 41..5A 61..7A 1", 13, api.ErrWord}, {"shift 41..5A D7F0 1", 0, api.ErrField}, {"shift 0..1 D7FF 1", 0, api.ErrField}, {"shift 0..801 D7FF 1", 0, api.ErrField}, {"shift 0..1 10FFFF 1", 0, api.ErrField}, {"shift 41 61 1 # x", 0, api.OK},
		{"decomp 41 42", 12, api.ErrWord}, {"decomp 41 42 43 44", 16, api.ErrWord}, {"decomp 41..42 43 44", 7, api.ErrWord}, {"decomp D800 43 44", 0, api.ErrField}, {"opens 41", 8, api.ErrWord}, {"opens 41 42 43 44", 15, api.ErrWord}, {"opens 41 42 DC00", 0, api.ErrField},
		{"script 41 latn", 10, api.ErrWord}, {"script 41", 9, api.ErrWord}, {"script 41 Latn Cyrl", 15, api.ErrWord}, {"script Latn 41", 7, api.ErrWord}, {"mark", 4, api.ErrWord}, {"mark 41 x", 8, api.ErrWord}, {"ignored 41 1", 11, api.ErrWord}, {"looks 41", 8, api.ErrWord}, {"looks 41..42 43", 6, api.ErrWord}, {"looks D800 43", 0, api.ErrField},
		{"weight 41 -1", 0, api.ErrField}, {"weight 41 -0", 0, api.ErrField}, {"weight 41 -inf", 0, api.ErrField}, {"weight 41 -1e-400", 0, api.ErrField}, {"weight 41 nan", 10, api.ErrWord}, {"weight 41 1e", 10, api.ErrWord}, {"weight 41 1e400", 10, api.ErrWord}, {"weight 41 1e401", 10, api.ErrWord}, {"weight 41", 9, api.ErrWord}, {"weight 41 1 2", 12, api.ErrWord}, {"weight 41 1e-400", 0, api.OK},
		{"mix Latn Latn 1", 0, api.ErrField}, {"mix Latn Cyrl -1", 0, api.ErrField}, {"mix Latn Cyrl", 13, api.ErrWord}, {"mix Latn", 8, api.ErrWord}, {"mix", 3, api.ErrWord}, {"mix 41 Latn Cyrl 1", 4, api.ErrWord}, {"mix Latn cyrl 1", 9, api.ErrWord}, {"mix Latn Cyrl x", 14, api.ErrWord}, {"mix Latn Cyrl 1 1", 16, api.ErrWord},
	} {
		for _, ahead := range []string{"", "valid 9\n", "\n\r\n\t# x\nmark 9 # y\n", "#\xC3\x9F\n"} {
			for _, blank := range []string{"", "  ", "\t\r"} {
				l, at, e := table.Parse(ahead + blank + c.s + "\nbad")
				column := len(blank) + c.at
				want := api.Place{At: len(ahead) + column, Line: strings.Count(ahead, "\n") + 1, Column: column + 1}
				if c.e == api.OK {
					want, c.e = api.Place{At: len(ahead) + len(blank) + len(c.s) + 1, Line: want.Line + 1, Column: 1}, api.ErrWord
					if len(l) > 0 || at != want || e != c.e {
						t.Errorf("6.5: Parse(%q): %v, %v, want %v", c.s, at, e, want)
					}
					c.e = api.OK
					continue
				}
				if len(l) > 0 || at != want || e != c.e {
					t.Errorf("6.5: Parse(%q): %+v, %v, %v, want %v, %v", ahead+blank+c.s, l, at, e, want, c.e)
				}
			}
		}
	}
}

// TestParseOfWordsTurned takes a word away from each place, lays one more there, and lays one there that may not stand.
func TestParseOfWordsTurned(t *testing.T) {
	strange := []string{"41", "0", "41..5A", "10FFFF", "D800", "DFFF", "E000", "110000", "041", "x", "-1", "-0", "1", "64", "65", "254", "255", "1234567890", "L", "R", "NSM", "U", "T", "Q", "Latn", "Cyrl", "latn", "inf", "-inf", "1e", "25e-2", "valid", "mix", "\xFF"}
	met := map[api.Errno]int{}
	for _, c := range samples {
		words := strings.Fields(c.line)
		for i := range len(words) + 1 {
			for _, w := range strange {
				met[checkParse(t, "\n "+strings.Join(slices.Insert(slices.Clone(words), i, w), " ")+" # x")]++
				if i < len(words) {
					turned := slices.Clone(words)
					turned[i] = w
					met[checkParse(t, "valid 1\n"+strings.Join(turned, "\t")+"\r\nbad")]++
					for j := range words {
						twice := slices.Clone(turned)
						twice[j] = "?"
						met[checkParse(t, strings.Join(twice, " "))]++
					}
				}
			}
			met[checkParse(t, strings.Join(words[:i], " ")+"\t\t# x")]++
			if i < len(words) {
				met[checkParse(t, strings.Join(slices.Delete(slices.Clone(words), i, i+1), "  "))]++
			}
		}
	}
	if met[api.OK] < 100 || met[api.ErrWord] < 1000 || met[api.ErrField] < 100 {
		t.Errorf("the words test too little: %v", met)
	}
}

func TestParseOfCodes(t *testing.T) {
	for _, c := range []struct {
		begin       string
		least, most int
	}{{"mapped 41..43", 1, 24}, {"looks 41", 1, 24}, {"deviation 41", 0, 24}, {"opens 41", 1, 2}, {"decomp 41", 2, 2}} {
		for n := range 30 {
			s := c.begin + strings.Repeat(" 1F6", n)
			l, at, e := table.Parse(s)
			switch {
			case n < c.least:
				if len(l) > 0 || e != api.ErrWord || at != (api.Place{At: len(s), Line: 1, Column: len(s) + 1}) {
					t.Errorf("6.5: Parse(%q): %v, %v, %v", s, l, at, e)
				}
			case n > c.most:
				first := len(c.begin) + 4*c.most + 1
				if len(l) > 0 || e != api.ErrWord || at != (api.Place{At: first, Line: 1, Column: first + 1}) {
					t.Errorf("6.5: Parse(%q): %v, %v, %v", s, l, at, e)
				}
			default:
				if len(l) != 1 || !slices.Equal(l[0].To, slices.Repeat([]rune{0x1F6}, n)) || e != api.OK {
					t.Errorf("6.5: Parse(%q): %v, %v, %v", s, l, at, e)
				}
			}
		}
		s := c.begin + strings.Repeat(" 1", c.most) + " D800 x"
		if _, at, e := table.Parse(s); e != api.ErrWord || at.At != len(s)-6 {
			t.Errorf("6.5: Parse(%q): %v, %v", s, at, e)
		}
		if _, at, e := table.Parse(c.begin + strings.Repeat(" D800", c.most)); e != api.ErrField || at != (api.Place{At: 0, Line: 1, Column: 1}) {
			t.Errorf("6.5: Parse of surrogates behind %q: %v, %v", c.begin, at, e)
		}
	}
}

func TestParseOfLongLines(t *testing.T) {
	for _, c := range []struct {
		line string
		e    api.Errno
	}{
		{"valid 41" + strings.Repeat(" ", 392), api.OK}, {"valid 41" + strings.Repeat(" ", 393), api.ErrLong},
		{"valid 41 " + strings.Repeat("#", 391), api.OK}, {"valid 41 " + strings.Repeat("#", 392), api.ErrLong},
		{strings.Repeat(" ", 400), api.OK}, {strings.Repeat(" ", 401), api.ErrLong}, {strings.Repeat("#", 400), api.OK}, {strings.Repeat("#", 401), api.ErrLong}, {strings.Repeat("\u00DF", 200), api.ErrWord}, {strings.Repeat("\u00DF", 201), api.ErrLong},
		{strings.Repeat("x", 401), api.ErrLong}, {"bad" + strings.Repeat(" ", 398), api.ErrLong}, {"class 300 0" + strings.Repeat(" ", 500), api.ErrLong}, {strings.Repeat(" ", 392) + "valid 41", api.OK}, {strings.Repeat(" ", 392) + "valid 41\r", api.ErrLong}, {strings.Repeat("#", 262143), api.ErrLong},
	} {
		for _, ahead := range []string{"", "mark 9\n\n"} {
			for _, behind := range []string{"", "\n"} {
				if len(ahead)+len(c.line)+len(behind) > 262144 {
					continue
				}
				l, at, e := table.Parse(ahead + c.line + behind)
				want := api.Place{}
				switch c.e {
				case api.ErrLong:
					want = api.Place{At: len(ahead) + 400, Line: 1 + strings.Count(ahead, "\n"), Column: 401}
				case api.ErrWord:
					want = api.Place{At: len(ahead), Line: 1 + strings.Count(ahead, "\n"), Column: 1}
				}
				if e != c.e || at != want || e != api.OK && len(l) > 0 {
					t.Errorf("6.5: Parse of a line of %d bytes behind %q: %v, %v, want %v, %v", len(c.line), ahead, at, e, want, c.e)
				}
			}
		}
	}
}

func TestParseOfLongTexts(t *testing.T) {
	comment := strings.Repeat("#23456789012345678901234567890123456789012345678901234567890123\n", 4096)
	for _, c := range []struct {
		s    string
		n    int
		want api.Place
		e    api.Errno
	}{
		{comment, 0, api.Place{}, api.OK},
		{comment + "\n", 0, api.Place{Line: 1, Column: 1}, api.ErrLong},
		{comment[:262144-9] + "\nmark 123", 1, api.Place{}, api.OK},
		{comment[:262144-9] + "\nmark 1234", 0, api.Place{Line: 1, Column: 1}, api.ErrLong},
		{"bad\n" + comment[4:] + " ", 0, api.Place{Line: 1, Column: 1}, api.ErrLong},
		{"bad\n" + comment[4:262140] + "   \n", 0, api.Place{Line: 1, Column: 1}, api.ErrWord},
		{strings.Repeat("\n", 262144), 0, api.Place{}, api.OK},
		{strings.Repeat("\n", 262145), 0, api.Place{Line: 1, Column: 1}, api.ErrLong},
		{strings.Repeat("\n", 262143) + "x", 0, api.Place{At: 262143, Line: 262144, Column: 1}, api.ErrWord},
		{strings.Repeat(" ", 262145), 0, api.Place{Line: 1, Column: 1}, api.ErrLong},
	} {
		l, at, e := table.Parse(c.s)
		if len(l) != c.n || at != c.want || e != c.e {
			t.Errorf("6.5: Parse of %d bytes (%.9q..): %d records, %v, %v, want %d, %v, %v", len(c.s), c.s, len(l), at, e, c.n, c.want, c.e)
		}
	}
}

func TestParseOfManyRecords(t *testing.T) {
	s := strings.Repeat("valid 41\n", 4096)
	for _, c := range []struct {
		behind string
		at     int
		e      api.Errno
	}{
		{"", 0, api.OK}, {"\n\n# no word\n \t\r\n#", 0, api.OK}, {"valid 41", 0, api.ErrMany}, {" x", 1, api.ErrMany}, {"\t class 300 0\n", 2, api.ErrMany}, {"valid # missing", 0, api.ErrMany}, {strings.Repeat(" ", 401), 400, api.ErrLong}, {"valid 41" + strings.Repeat(" ", 393), 400, api.ErrLong},
	} {
		l, at, e := table.Parse(s + c.behind)
		if c.e == api.OK && (len(l) != 4096 || at != (api.Place{}) || e != api.OK) {
			t.Errorf("6.5: Parse of 4,096 records and %q: %d, %v, %v", c.behind, len(l), at, e)
		}
		if c.e != api.OK && (len(l) > 0 || at != (api.Place{At: len(s) + c.at, Line: 4097, Column: c.at + 1}) || e != c.e) {
			t.Errorf("6.5: Parse of 4,096 records and %q: %d, %v, %v, want %v", c.behind, len(l), at, e, c.e)
		}
	}
	less := s[:len(s)-9]
	if _, at, e := table.Parse(less + "x"); e != api.ErrWord || at.Line != 4096 {
		t.Errorf("6.5: Parse of 4,095 records and a line that is wrong: %v, %v", at, e)
	}
}

// drawnText is lines of words, right and wrong ones, with blanks and remarks.
func drawnText(r *rand.Rand) string {
	var b strings.Builder
	for range r.IntN(5) {
		for range r.IntN(3) {
			b.WriteString([]string{"\n", " \n", "# said\n", "\t#valid 1\r\n", "\r\n"}[r.IntN(5)])
		}
		words := strings.Fields(samples[r.IntN(len(samples))].line)
		if r.IntN(3) == 0 {
			other := strings.Fields(samples[r.IntN(len(samples))].line)
			words[r.IntN(len(words))] = other[r.IntN(len(other))]
		}
		if r.IntN(8) == 0 {
			words = words[:r.IntN(len(words)+1)]
		}
		for _, w := range words {
			b.WriteString([]string{"", " ", "\t", " \r"}[r.IntN(4)] + w + " ")
		}
		b.WriteString([]string{"", "# x", "#"}[r.IntN(3)] + "\n")
	}
	return b.String()
}

func TestParseOfAll(t *testing.T) {
	r := rand.New(rand.NewPCG(6, 5))
	met := map[api.Errno]int{}
	for range 20000 {
		s := drawnText(r)
		met[checkParse(t, s)]++
		checkBack(t, s)
	}
	if met[api.OK] < 3000 || met[api.ErrWord] < 3000 || met[api.ErrField] < 50 {
		t.Errorf("the draw tests too little: %v", met)
	}
}

// checkBack is 6.7's second way.
func checkBack(t *testing.T, s string) {
	t.Helper()
	l, _, e := table.Parse(s)
	if e != api.OK {
		return
	}
	p, e := table.Print(l)
	if e != api.OK {
		t.Fatalf("6.7: Parse(%q) is %+v, and Print of it %v", s, l, e)
	}
	again := read(t, p)
	if !table.Same(again, l) {
		t.Fatalf("6.7: Parse(%q) is %+v, printed %q, read again %+v", s, l, p, again)
	}
	if q, e := table.Print(again); q != p || e != api.OK {
		t.Fatalf("6.7: printed %q, and again %q, %v", p, q, e)
	}
}

func TestThereAndBack(t *testing.T) {
	all := records()
	s, e := table.Print(all)
	if l := read(t, s); e != api.OK || !table.Same(l, all) {
		t.Fatalf("6.7: Parse of Print of one of each kind: %+v, %v", l, e)
	}
	r := rand.New(rand.NewPCG(6, 7))
	taken := 0
	for range 4000 {
		var l []api.Record
		for range r.IntN(8) {
			x := drawnRecord(r, 0x1000)
			if x.Kind == api.KWeight || x.Kind == api.KMix {
				x.Weight = math.Float64frombits(r.Uint64() >> 1)
			}
			if x.Kind == api.KBidi || x.Kind == api.KJoin {
				x.N = r.IntN(12)
			}
			l = append(l, x)
		}
		s, e := table.Print(l)
		if e != api.OK {
			continue
		}
		taken++
		if got := read(t, s); !table.Same(got, l) {
			t.Fatalf("6.7: Print(%+v) is %q, which is read as %+v", l, s, got)
		}
	}
	if taken < 1000 {
		t.Errorf("the draw tests too little: %d", taken)
	}
	for _, s := range []string{"weight 41 0.25", "weight 41 100\nweight 41 1e2", "weight 41 00012.50", "weight 41 9007199254740993", "weight 41 1e-400", "mix Latn Cyrl 0e5", "# x\n\n valid 41\t# y\r\nvalid 41", ""} {
		checkBack(t, s)
	}
	long := "mark 0 " + strings.Repeat("#", 393) + "\n"
	text := strings.Repeat(long, 653) + strings.Repeat(" ", 262144-653*len(long)-6) + "mark 0"
	if l := read(t, text); len(l) != 654 {
		t.Errorf("6.7: a text of %d bytes: %d records", len(text), len(l))
	}
	checkBack(t, text)
}

// TestBlanksAndRemarks is 6.8: the words of a text with other blanks, remarks and empty lines.
func TestBlanksAndRemarks(t *testing.T) {
	r := rand.New(rand.NewPCG(6, 8))
	blank := func() string { return []string{" ", "\t", "\r", "  ", " \t\r"}[r.IntN(5)] }
	for range 2000 {
		var want []api.Record
		var b strings.Builder
		for range r.IntN(6) {
			c := samples[r.IntN(len(samples))]
			want = append(want, c.r)
			for range r.IntN(3) {
				b.WriteString([]string{"\n", "#\n", "# valid 41\n", blank() + "\n", blank() + "## x\n"}[r.IntN(5)])
			}
			b.WriteString([]string{"", blank()}[r.IntN(2)])
			for i, w := range strings.Fields(c.line) {
				if i > 0 {
					b.WriteString(blank())
				}
				b.WriteString(w)
			}
			b.WriteString([]string{"", blank(), "#", blank() + "# valid 41", "#x\xFF"}[r.IntN(5)] + "\n")
		}
		if l := read(t, b.String()); !table.Same(l, want) {
			t.Fatalf("6.8: Parse(%q): %+v, want %+v", b.String(), l, want)
		}
	}
}

func TestOneTextBehindTheOther(t *testing.T) {
	r := rand.New(rand.NewPCG(6, 9))
	both := 0
	for range 4000 {
		s, u := drawnText(r), drawnText(r)
		if r.IntN(2) == 0 {
			s = strings.TrimSuffix(s, "\n")
		}
		a, _, e := table.Parse(s)
		b, _, e2 := table.Parse(u)
		if e != api.OK || e2 != api.OK {
			continue
		}
		both++
		if l := read(t, s+"\n"+u); !table.Same(l, append(slices.Clone(a), b...)) {
			t.Fatalf("6.8: %q with %q behind it: %+v", s, u, l)
		}
	}
	if both < 500 {
		t.Errorf("the draw tests too little: %d", both)
	}
	half := strings.TrimSuffix(strings.Repeat("valid 41\n", 2048), "\n")
	if l := read(t, half+"\n"+half); len(l) != 4096 {
		t.Errorf("6.8: twice 2,048 records: %d", len(l))
	}
}

func TestOnceInEachFamily(t *testing.T) {
	l := read(t, "valid 41..50\nclass 45 9\nshift 60..80 100 2\nmapped 61..61F 1\n")
	if _, e := table.Check(l); e != api.ErrTwice {
		t.Errorf("6.9: Check of records of which two speak of 62: %v", e)
	}
	l = read(t, "valid 41..50\nclass 45 9\nshift 60..80 100 2\nshift 61..7F 200 4\nmapped 63 1\ndecomp 45 41 300\nopens 46 41\nmix Latn Cyrl 1")
	if _, e := table.Check(l); e != api.OK {
		t.Fatalf("6.9: Check: %v", e)
	}
	checkOnce(t, l)
}

func TestSame(t *testing.T) {
	for i, c := range samples {
		for j, d := range samples {
			if same := table.Same([]api.Record{c.r}, []api.Record{deep(d.r)}); same != (i == j) {
				t.Errorf("6.6: Same(%+v, %+v): %v", c.r, d.r, same)
			}
		}
	}
	full := api.Record{Kind: 77, Lo: -3, Hi: 1 << 40, N: 9, To: []rune{1, -2, 3}, Name: "a", Other: "b", Weight: 1}
	one := func(r api.Record) []api.Record { return []api.Record{r} }
	if !table.Same(one(full), one(deep(full))) {
		t.Errorf("6.6: a record that is not right is not the same as itself")
	}
	for _, set := range []func(*api.Record){
		func(r *api.Record) { r.Kind++ }, func(r *api.Record) { r.Lo++ }, func(r *api.Record) { r.Hi++ }, func(r *api.Record) { r.N++ },
		func(r *api.Record) { r.To[0]++ }, func(r *api.Record) { r.To[2]++ }, func(r *api.Record) { r.To = r.To[:2] }, func(r *api.Record) { r.To = append(r.To, 0) }, func(r *api.Record) { r.To = nil },
		func(r *api.Record) { r.Name = "c" }, func(r *api.Record) { r.Other = "c" }, func(r *api.Record) { r.Name, r.Other = r.Other, r.Name }, func(r *api.Record) { r.Weight = 2 }, func(r *api.Record) { r.Weight = math.Nextafter(1, 2) }, func(r *api.Record) { r.Weight = math.NaN() },
	} {
		x := deep(full)
		set(&x)
		if table.Same(one(full), one(x)) || table.Same(one(x), one(full)) {
			t.Errorf("6.6: %+v and %+v are told to be the same", full, x)
		}
	}
	for _, a := range edgeWeights {
		for _, b := range edgeWeights {
			want := math.Float64bits(a) == math.Float64bits(b)
			if table.Same(one(api.Record{Weight: a}), one(api.Record{Weight: b})) != want {
				t.Errorf("6.6: Weights of the bits %X and %X: not %v", math.Float64bits(a), math.Float64bits(b), want)
			}
		}
	}
	all := records()
	turned := records()
	turned[0], turned[1] = turned[1], turned[0]
	for _, c := range []struct {
		a, b []api.Record
		want bool
	}{
		{nil, nil, true}, {nil, []api.Record{}, true}, {nil, all, false}, {all, nil, false}, {all, records(), true}, {all, turned, false}, {all, all[:len(all)-1], false}, {all[1:], all, false},
		{one(api.Record{To: nil}), one(api.Record{To: []rune{}}), true}, {one(api.Record{}), []api.Record{{}, {}}, false},
	} {
		if table.Same(c.a, c.b) != c.want {
			t.Errorf("6.6: Same of lists of %d and %d: not %v", len(c.a), len(c.b), c.want)
		}
	}
}

// roomy is a list with room behind it, and with room behind each To, all of it filled with a mark.
func roomy(l []api.Record) []api.Record {
	room := make([]api.Record, len(l)+4)
	for i := range room {
		room[i] = api.Record{Kind: 99, Name: "room"}
		if i < len(l) {
			room[i] = l[i]
			to := append(slices.Clone(l[i].To), 7, 7, 7)
			room[i].To = to[:len(l[i].To)]
		}
	}
	return room[:len(l)]
}

func TestWhatIsHandedInStays(t *testing.T) {
	clash := append(records(), records()...)
	for _, l := range [][]api.Record{records(), clash, apart(30), {{Kind: 77, To: []rune{1}}}} {
		in := roomy(l)
		table.Check(in)
		table.Print(in)
		table.Find(in, 1, 0x41)
		table.Same(in, in[:len(in)-1])
		for _, r := range in {
			table.Right(r)
			table.Line(r)
		}
		if !table.Same(in, l) {
			t.Fatalf("6.1 to 6.6: what was handed in has changed: %+v", in)
		}
		for i, r := range in[:cap(in)] {
			if i >= len(l) && (r.Kind != 99 || r.Name != "room" || len(r.To) > 0) || i < len(l) && slices.ContainsFunc(r.To[len(r.To):len(r.To)+3], func(c rune) bool { return c != 7 }) {
				t.Fatalf("6.1 to 6.6: the room behind what was handed in has changed at %d: %+v", i, r)
			}
		}
	}
}

func TestWhatIsToldIsItsCallers(t *testing.T) {
	s, _ := table.Print(records())
	l := read(t, s)
	for i := range l {
		to := l[i].To[:cap(l[i].To)]
		for j := range to {
			to[j] = -9
		}
		for j := range l {
			if rest := l[j].To; j > i && !slices.Equal(rest, samples[j].r.To) {
				t.Fatalf("6.5: the lists of the records %d and %d share memory", i, j)
			}
		}
	}
	for i := range l[:cap(l)] {
		l[:cap(l)][i] = api.Record{Kind: -9}
	}
	if again := read(t, s); !table.Same(again, records()) {
		t.Errorf("6.5: behind an answer that was written over Parse tells %+v", again)
	}
	for _, c := range samples {
		if got, _ := table.Line(c.r); got != c.line {
			t.Errorf("6.4: behind an answer that was written over Line tells %q", got)
		}
	}
}
