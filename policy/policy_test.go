package policy_test

import (
	"math"
	"slices"
	"strings"
	"testing"

	"endonym/api"
	"endonym/house"
	"endonym/policy"
)

var inf = math.Inf(1)

// wrongLimits are NaNs of either sign, quiet and signalling, and what is below +0.
func wrongLimits() []float64 {
	l := []float64{math.NaN(), math.Copysign(0, -1), -math.SmallestNonzeroFloat64, -math.SmallestNonzeroFloat32, -0.1, -1, -1e39, -math.MaxFloat32, -math.MaxFloat64, -inf}
	for _, bits := range []uint64{0x7FF8000000000000, 0xFFF8000000000000, 0x7FF0000000000001, 0xFFF0000000000001, 0x7FFFFFFFFFFFFFFF, 0xFFFFFFFFFFFFFFFF} {
		l = append(l, api.Float(bits))
	}
	return l
}

// wrongFlags are outside 0 to 63, or have Transitional: alone, or with others.
func wrongFlags() []int {
	l := []int{math.MinInt, math.MinInt + 47, -1 << 32, -64, -63, -17, -16, -2, -1, 64, 65, 80, 127, 128, 1 << 16, 1 << 31, 1 << 32, 1<<32 + 1, math.MaxInt - 63, math.MaxInt}
	for flags := range 64 {
		if flags&api.Transitional != 0 {
			l = append(l, flags)
		}
	}
	return l
}

func checkRefused(t *testing.T, p *policy.Policy, e api.Errno, what string, flags int, limit float64) {
	t.Helper()
	if p != nil || e != api.ErrArg {
		t.Errorf("23.1: New %s, with %d, %v (%X): %v, %v", what, flags, limit, api.Bits(limit), p != nil, e)
	}
}

func TestNew(t *testing.T) {
	d := house.Data()
	for _, flags := range wrongFlags() {
		for _, limit := range append(wrongLimits(), 0, 1, inf) {
			p, e := policy.New(d, flags, limit)
			checkRefused(t, p, e, "with Data", flags, limit)
			p, e = policy.New(nil, flags, limit)
			checkRefused(t, p, e, "without Data", flags, limit)
		}
	}
	for _, flags := range settings() {
		for _, limit := range wrongLimits() {
			p, e := policy.New(d, flags, limit)
			checkRefused(t, p, e, "with Data", flags, limit)
			p, e = policy.New(nil, flags, limit)
			checkRefused(t, p, e, "without Data", flags, limit)
		}
		for _, limit := range []float64{0, 0.5, math.MaxFloat64, inf} {
			if p, e := policy.New(d, flags, limit); p == nil || e != api.OK || p.Flags() != flags {
				t.Fatalf("23.1: New with %d, %v: %v", flags, limit, e)
			}
			p, e := policy.New(nil, flags, limit)
			checkRefused(t, p, e, "without Data", flags, limit)
		}
	}
	if len(settings()) != 32 {
		t.Errorf("%d settings", len(settings()))
	}
}

func TestLimit(t *testing.T) {
	const tie = 1<<128 - 1<<103 // between the greatest number of binary32 and what would be the next one
	w := baseWorld(t)
	for _, c := range []struct{ limit, want float64 }{
		// binary32 holds them
		{0, 0}, {0.25, 0.25}, {1, 1}, {1.5, 1.5}, {16777216, 16777216}, {16777215, 16777215}, {1 << 100, 1 << 100}, {math.MaxFloat32, math.MaxFloat32}, {0x1p-126, 0x1p-126}, {0x1p-149, 0x1p-149}, {0x3p-149, 0x3p-149}, {inf, inf},
		// the nearest to them
		{0.1, 0.100000001490116119384765625}, {0.2, 0.20000000298023223876953125}, {0.3, 0.300000011920928955078125}, {1e-1 + 0x1p-50, 0.100000001490116119384765625}, {1e10, 1e10}, {1e16, 10000000272564224},
		// of two as near the even one
		{16777217, 16777216}, {16777219, 16777220}, {1 + 0x1p-24, 1}, {1 + 0x1p-24 + 0x1p-52, 1 + 0x1p-23}, {1 + 0x3p-24, 1 + 0x1p-22}, {0x1p-150, 0}, {0x1.8p-149, 0x1p-148}, {math.Nextafter(0x1p-150, 1), 0x1p-149},
		// too little, too great
		{math.SmallestNonzeroFloat64, 0}, {1e-300, 0}, {1e-46, 0}, {math.Nextafter(tie, 0), math.MaxFloat32}, {tie, inf}, {1e39, inf}, {math.MaxFloat64, inf},
	} {
		for _, flags := range []int{0, api.Strict} {
			p := w.made(t, flags, c.limit)
			for range 2 {
				if a := p.Limit(); api.Bits(a) != api.Bits(c.want) {
					t.Errorf("23.1: Limit of %v: %v, want %v", c.limit, a, c.want)
				}
			}
		}
	}
}

// checkCost holds a cost against what the test and the document say, by its bits.
func (w *world) checkCost(t *testing.T, p *policy.Policy, x []rune, want float64) {
	t.Helper()
	if a := w.cost(x); api.Bits(a) != api.Bits(want) {
		t.Fatalf("%s: the records say that %X costs %v, want %v", w.name, few(x), a, want)
	}
	if a := p.Cost(x); api.Bits(a) != api.Bits(want) {
		t.Errorf("23.2: %s: Cost of %d numbers, %X: %v, want %v", w.name, len(x), few(x), a, want)
	}
}

type costs []struct {
	x    []rune
	want float64
}

func (w *world) checkCosts(t *testing.T, l costs) {
	t.Helper()
	p := w.made(t, api.Strict, 1)
	for _, c := range l {
		w.checkCost(t, p, c.x, c.want)
	}
}

const tenth, hundredth, fifth = 0.100000001490116119384765625, 0.00999999977648258209228515625, 0.20000000298023223876953125

func TestCostInTheHouse(t *testing.T) {
	houseWorld(t).checkCosts(t, costs{
		{points(0xE0), tenth}, {points(0x61, 0x2D), 0.25}, {points(0x61, 0x430, 0x431), 8}, {points(0x430), inf},
		{nil, 0}, {points(), 0}, {points(0x61), 0}, {points(0x2D), 0.25}, {points(0x2D, 0x2D, 0x2D), 0.75}, {points(0x30, 0x31), 0},
		{points(0xE0, 0xE0), tenth + tenth}, {points(0xE0, 0x2D, 0x113), tenth + 0.25 + fifth}, {points(0x301), 0.5}, {points(0x4E00), hundredth}, {points(0xAC00, 0xAC01), hundredth + hundredth},
		// a script beside another, each two once
		{points(0x61, 0x62, 0x431, 0x434), 8}, {points(0x431, 0x61), 8}, {points(0x61, 0x3B1), 6}, {points(0x3B1, 0x431), 4}, {points(0x61, 0x3B1, 0x431), 18}, {points(0x431, 0x3B1, 0x61, 0x431), 18}, {points(0x61, 0x4E00), hundredth + 0.5}, {points(0x3041, 0x30A1, 0x4E00), hundredth},
		{points(0x61, 0x628), inf}, {points(0x5D0, 0x628), inf}, {points(0x628, 0x661), 0}, {points(0x61, 0x5D0), 0}, {points(0x61, 0x915, 0x995, 0x10428), 0},
		{points(0x61, 0x3B1, 0x431, 0x4E00), hundredth + 8 + 4 + 0.5 + 6},
		// what looks like ASCII and is none
		{points(0x131), inf}, {points(0x61, 0x430), inf}, {points(0x430, 0x435), inf}, {points(0x430, 0x431), 0}, {points(0x3BF), inf}, {points(0x30, 0x6F), 0}, {points(0x440, 0x30), inf}, {points(0x430, 0x300), 0.5},
	})
}

// What is no code point has no weight and no script, and looks like nothing but itself.
func TestCostOfNoCodePoint(t *testing.T) {
	none := points(-1, -0x61, -0x430, math.MinInt32, 0x110000, 0x110061, 0x110430, math.MaxInt32)
	w := written(t, "heavy", free+"weight 0..10FFFF 1\nscript 0..10FFFF Aaaa\nlooks 430 61\n")
	for _, w := range []*world{w, houseWorld(t), baseWorld(t)} {
		p := w.made(t, 0, 0)
		for _, c := range none {
			w.checkCost(t, p, points(c), 0)
		}
		w.checkCost(t, p, none, 0)
	}
	w.checkCosts(t, costs{{points(-1, 0x61, 0x110000), 1}, {points(0xD800), 1}, {points(0, 0x10FFFF), 2}, {points(0x430, -1), 1}, {points(0x430), inf}})
}

// scales has weights whose sum hangs on the order: 2^53 and 1 are 2^53, and 2^53 and 2 are more.
const scales = free + "weight 61 9007199254740992\nweight 62 1\nweight 63 inf\nweight 64 0\nweight 65 1e39\nweight 66 1e-46\nweight 67 3e38\nweight 68 16777217\nweight 69 1e-1\n"

func TestCostInOrder(t *testing.T) {
	const great = 1 << 53
	w := written(t, "scales", scales)
	w.checkCosts(t, costs{
		{points(0x61), great}, {points(0x62), 1}, {points(0x61, 0x62, 0x62), great}, {points(0x62, 0x62, 0x61), great + 2}, {points(0x62, 0x61, 0x62), great},
		{points(0x62, 0x62, 0x61, 0x62, 0x62), great + 4}, {points(0x62, 0x62, 0x62, 0x61), great + 4}, {points(0x61, 0x62, 0x62, 0x61), great * 2},
		// an amount beyond binary32 weighs inf, one too little nothing; the sum is not narrowed
		{points(0x63), inf}, {points(0x63, 0x62, 0x63), inf}, {points(0x64), 0}, {points(0x65), inf}, {points(0x66), 0}, {points(0x67, 0x67), 2 * float64(float32(3e38))}, {points(0x68), 16777216}, {points(0x68, 0x62), 16777217},
		{points(0x69, 0x69, 0x69), tenth + tenth + tenth}, {points(0x69, 0x69, 0x69, 0x69, 0x69, 0x69, 0x69), tenth + tenth + tenth + tenth + tenth + tenth + tenth},
	})
}

// Numbers by the hundred thousand, and more than looks takes.
func TestCostOfMany(t *testing.T) {
	w := written(t, "scales", scales+"looks 430 61\nweight 430 25e-2\n")
	p := w.made(t, 0, 0)
	tenths, sum := slices.Repeat(points(0x69), 300000), 0.0
	for range tenths {
		sum += tenth
	}
	w.checkCost(t, p, tenths, sum)
	w.checkCost(t, p, append(points(0x61), tenths...), 1<<53)
	w.checkCost(t, p, append(tenths, 0x61), 1<<53+30000)
	w.checkCost(t, p, slices.Repeat(points(0x62, 0x64), 200000), 200000)
	w.checkCost(t, p, slices.Repeat(points(0x430), api.MaxPoints), inf)
	w.checkCost(t, p, slices.Repeat(points(0x430), api.MaxPoints+1), (api.MaxPoints+1)*0.25)
}

// letters are of five scripts, which stand in another order than their names; 105 to 107 have none.
const letters = free + "script 100 Dddd\nscript 101 Bbbb\nscript 102 Aaaa\nscript 103 Cccc\nscript 104 Eeee\nweight 105 1\nweight 106 9007199254740992\nscript 61 Aaaa\n"

func TestCostOfScripts(t *testing.T) {
	const great = 1 << 53
	w := written(t, "said", letters+"mix Aaaa Bbbb 1\nmix Cccc Aaaa 2\nmix Bbbb Cccc 4\nmix Dddd Aaaa 8\nmix Cccc Dddd 32\nmix Eeee Aaaa 64\n")
	w.checkCosts(t, costs{
		{points(0x102), 0}, {points(0x102, 0x102, 0x61), 0}, {points(0x102, 0x101), 1}, {points(0x101, 0x102), 1}, {points(0x102, 0x103), 2}, {points(0x103, 0x102), 2}, {points(0x101, 0x103), 4}, {points(0x100, 0x102), 8}, {points(0x100, 0x103), 32},
		// not said
		{points(0x101, 0x100), 0}, {points(0x104, 0x101, 0x107), 0}, {points(0x104, 0x103), 0},
		// of three, of four, of five, each more than once
		{points(0x101, 0x102, 0x103), 7}, {points(0x103, 0x61, 0x101, 0x101, 0x102), 7}, {points(0x100, 0x101, 0x102), 9}, {points(0x100, 0x101, 0x103), 36}, {points(0x100, 0x101, 0x102, 0x103), 47}, {points(0x103, 0x102, 0x101, 0x100, 0x107, 0x100, 0x103), 47}, {points(0x100, 0x101, 0x102, 0x103, 0x104), 111},
	})
	// behind the weights
	w = written(t, "one great mix", letters+"mix Aaaa Bbbb 9007199254740992\nmix Dddd Eeee 1\nmix Cccc Dddd 1\n")
	w.checkCosts(t, costs{
		{points(0x105, 0x105, 0x101, 0x102), great + 2}, {points(0x101, 0x102, 0x105, 0x105), great + 2}, {points(0x106, 0x100, 0x104, 0x103), great}, {points(0x100, 0x104, 0x103, 0x106), great}, {points(0x100, 0x101, 0x102, 0x103, 0x104), great},
	})
	// the first one's place rises, and then the second one's
	for _, c := range []struct {
		mixes string
		want  float64
	}{
		{"mix Aaaa Bbbb 1\nmix Aaaa Cccc 1\nmix Cccc Dddd 9007199254740992\n", great + 2}, {"mix Aaaa Bbbb 9007199254740992\nmix Bbbb Dddd 1\nmix Cccc Dddd 1\n", great},
		{"mix Aaaa Cccc 1\nmix Aaaa Dddd 9007199254740992\nmix Bbbb Cccc 1\n", great}, {"mix Aaaa Cccc 1\nmix Aaaa Dddd 1\nmix Bbbb Cccc 9007199254740992\n", great + 2},
		{"mix Aaaa Bbbb 1\nmix Aaaa Cccc 9007199254740992\nmix Aaaa Dddd 1\n", great}, {"mix Bbbb Cccc 1\nmix Bbbb Dddd 1\nmix Cccc Dddd 9007199254740992\n", great + 2},
		{"mix Aaaa Dddd 1\nmix Bbbb Dddd 9007199254740992\nmix Cccc Dddd 1\n", great}, {"mix Aaaa Dddd 1\nmix Bbbb Cccc 1\nmix Bbbb Dddd 9007199254740992\n", great + 2},
	} {
		w := written(t, c.mixes, letters+c.mixes)
		p := w.made(t, 0, 0)
		for _, x := range orders(points(0x100, 0x101, 0x102, 0x103)) {
			w.checkCost(t, p, x, c.want)
		}
	}
}

// orders are all orders of some numbers.
func orders(x []rune) [][]rune {
	if len(x) == 0 {
		return [][]rune{nil}
	}
	var l [][]rune
	for i, c := range x {
		for _, y := range orders(slices.Concat(x[:i], x[i+1:])) {
			l = append(l, append(points(c), y...))
		}
	}
	return l
}

func TestCostOfFakes(t *testing.T) {
	w := written(t, "fakes", free+"class 300 230\ndecomp E0 61 300\nlooks 430 61\nweight 430 inf\nlooks 431 61 62\nweight 431 2\nlooks 432 E0\nlooks 433 434\nlooks 434 61\nlooks 61 435\nweight 62 inf\nweight 436 inf\nlooks 437 300\nscript 431 Aaaa\nscript 438 Bbbb\nlooks 438 63\nmix Aaaa Bbbb inf\nscript 439 Bbbb\n")
	w.checkCosts(t, costs{
		{points(0x431), inf}, {points(0x430), inf}, {points(0x431, 0x430, 0x431), inf}, {points(0x434), inf}, {points(0x431, 0x438), inf},
		{points(0x432), 0}, {points(0x433), 0}, {points(0x437), 0}, {points(0x61), 0}, {points(0x434, 0x61), 0}, {points(0x431, 0xE0), 2}, {points(0x431, 0x435), 2}, {points(0x431, 0x63), inf}, {points(0x63), 0},
		// not fake, and inf
		{points(0x62), inf}, {points(0x436), inf}, {points(0x61, 0x436, 0x436), inf}, {points(0x431, 0x439), inf}, {points(0xE0, 0x62), inf},
	})
}

// As many scripts as a table can have.
func TestCostOfManyScripts(t *testing.T) {
	var s strings.Builder
	s.WriteString(base)
	var x []rune
	for c := range 4000 {
		name := string([]byte{'A' + byte(c/26/26), 'a' + byte(c/26%26), 'a' + byte(c%26), 'a'})
		x = append(x, rune(0x4E00+c))
		s.WriteString("script " + strings.ToUpper(hex(0x4E00+c)) + " " + name + "\n")
	}
	s.WriteString("mix Aaaa Aaba 1\nmix Fxva Aaaa 2\nmix Fxua Fxva 4\n")
	w := written(t, "scripts", s.String())
	if a := w.made(t, 0, 0).Cost(x); a != 7 {
		t.Errorf("23.2: Cost of 4,000 scripts: %v", a)
	}
}

func hex(n int) string {
	const digits = "0123456789abcdef"
	if n < 16 {
		return digits[n : n+1]
	}
	return hex(n/16) + hex(n%16)
}

// What is handed in stays as it is, its spare room too, and is not kept.
func TestCostLeavesItsNumbers(t *testing.T) {
	w := houseWorld(t)
	p := w.made(t, api.Strict, 1)
	room := points(0xE0, 0x61, 0x431, 0x2D, 0x3B1, 0x628, 0x301)
	for n := range room {
		was := slices.Clone(room)
		x := room[:n:len(room)]
		want := w.cost(x)
		for range 2 {
			w.checkCost(t, p, x, want)
		}
		if !slices.Equal(room, was) {
			t.Fatalf("23.2: Cost wrote into what it was handed: %X", room)
		}
	}
	x := points(0x431, 0x61)
	w.checkCost(t, p, x, 8)
	x[0] = 0x62
	w.checkCost(t, p, x, 0)
}

// A Policy answers as its engine does; policies over one Data are each by themselves.
func TestEngine(t *testing.T) {
	w := houseWorld(t)
	texts := []string{"", ".", "B\u00FCcher.de", "xn--bcher-kva.DE", "a_b", "\u03C3\u03C2", "xn--3xab", "-a", "ab--c", "a.", "\u05D01.1", "a\u200Cb", "\xFF", "xn--z", "xn--xn---3ra", "\u0430\u3002de", many(64, "a"), many(254, "a"), many(16385, "a")}
	of := map[int]*policy.Policy{}
	for _, flags := range settings() {
		of[flags] = w.made(t, flags, float64(flags))
	}
	for _, flags := range settings() {
		p, e := of[flags], w.engines[flags]
		if p.Flags() != flags || p.Limit() != float64(flags) || p.Has(api.Transitional) {
			t.Errorf("23: Flags %d, Limit %v of %d", p.Flags(), p.Limit(), flags)
		}
		for flag := range 64 {
			if p.Has(flag) != e.Has(flag) {
				t.Errorf("23: Has(%d) of %d: %t", flag, flags, p.Has(flag))
			}
		}
		for _, s := range texts {
			u, us := p.ToUnicode(s)
			a, as := p.ToASCII(s)
			l, set := p.Process(s)
			eu, eus := e.ToUnicode(s)
			ea, eas := e.ToASCII(s)
			el, eset := e.Process(s)
			if u != eu || us != eus || a != ea || as != eas || set != eset || !slices.EqualFunc(l, el, slices.Equal[[]rune]) {
				t.Errorf("23: flags %d, %q: %q, %d, %q, %d, %d", flags, some(s), some(u), us, some(a), as, set)
			}
		}
	}
}
