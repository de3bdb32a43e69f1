package weigh_test

import (
	"cmp"
	"math"
	"math/big"
	"math/rand/v2"
	"slices"
	"strconv"
	"strings"
	"testing"

	"endonym/api"
	"endonym/weigh"
)

const quietNaN = 0x7FF8000000000000

var (
	inf     = math.Inf(1)
	below   = math.Inf(-1)
	nought  = math.Copysign(0, -1)
	leastF  = math.Ldexp(1, -1074)
	leastN  = math.Ldexp(1, -1022) // the least one with all its bits
	manyNaN = []float64{math.NaN(), api.Float(quietNaN), api.Float(0x7FF0000000000001), api.Float(0xFFF0000000000001), api.Float(0xFFF8000000000000), api.Float(0xFFFFFFFFFFFFFFFF)}
)

func same(a, b float64) bool { return api.Bits(a) == api.Bits(b) }

// finite is floats of each kind, and a draw that is the same each time.
func finite() []float64 {
	l := []float64{0, leastF, 2 * leastF, 3 * leastF, leastN - leastF, leastN, leastN + leastF, math.MaxFloat64, 0.1, 0.3, 1, 2, 10, 100, 1e22, 1e23, 9007199254740991, 9007199254740992, 9007199254740994, 1125899906842624.25}
	for e := -1074; e < 1024; e++ {
		a := math.Ldexp(1, e)
		l = append(l, a, math.Nextafter(a, 0), math.Nextafter(a, inf))
	}
	for e := -323; e < 309; e++ {
		a, _ := strconv.ParseFloat("1e"+strconv.Itoa(e), 64)
		l = append(l, a, math.Nextafter(a, 0))
	}
	draw := rand.New(rand.NewPCG(2, 2))
	for range 1000 {
		if a := api.Float(draw.Uint64() >> 1); a < inf {
			l = append(l, a)
		}
		l = append(l, draw.Float64(), float64(draw.IntN(100000))/1000, math.Ldexp(float64(draw.IntN(1000)), -1074))
	}
	for _, a := range slices.Clone(l) {
		l = append(l, -a)
	}
	return l
}

// exactText is the value of a text of the form.
func exactText(s string) *big.Rat {
	r, ok := new(big.Rat).SetString(s)
	if !ok {
		panic(s)
	}
	return r
}

// rounded is the float nearest to a value, its sign that of the value, +0 of 0.
func rounded(r *big.Rat) float64 {
	a, _ := r.Float64()
	return a
}

// 2.1

func checkParse(t *testing.T, s string, a float64, e api.Errno) {
	t.Helper()
	if got, err := weigh.Parse(s); err != e || !same(got, a) {
		t.Errorf("Parse(%q): %v (%x), %d, want %v, %d", s, got, api.Bits(got), int(err), a, int(e))
	}
}

func TestParseReads(t *testing.T) {
	for _, c := range []struct {
		s string
		a float64
	}{
		{"0", 0}, {"-0", nought}, {"0.0", 0}, {"-0.0e5", nought}, {"0e400", 0}, {"-0e-400", nought}, {"00", 0},
		{"1", 1}, {"-1", -1}, {"007", 7}, {"0.1", 0.1}, {"-0.1", -0.1}, {"25e-2", 0.25}, {"1.5e2", 150}, {"1e0", 1}, {"1e-0", 1}, {"1e1", 10}, {"1e01", 10}, {"1e007", 1e7}, {"1e-003", 1e-3}, {"12.5", 12.5}, {"0.50", 0.5},
		{"inf", inf}, {"-inf", below},
		{"12345678901234567", 12345678901234568}, {"0.0000000000000001", 1e-16}, {"00000000000000001", 1}, {"1.0000000000000000", 1}, {"99999999999999999", 1e17},
		{"1e-400", 0}, {"-1e-400", nought}, {"0.0000000000000001e-400", 0}, {"1e308", 1e308}, {"0.0000000000000001e324", 1e308}, {"0.0000000000000000e400", 0},
	} {
		checkParse(t, c.s, c.a, api.OK)
	}
}

func TestParseRoundsToTheNearest(t *testing.T) {
	for _, c := range []struct {
		s string
		a float64
	}{
		// Between two floats, and beside the middle.
		{"9007199254740993", 9007199254740992}, {"9007199254740995", 9007199254740996}, {"9007199254740993.0", 9007199254740992}, {"-9007199254740993", -9007199254740992}, {"-9007199254740995", -9007199254740996},
		{"9007199254740992.9", 9007199254740992}, {"9007199254740993.1", 9007199254740994}, {"9007199254740994.9", 9007199254740994}, {"9007199254740995.1", 9007199254740996},
		{"4503599627370497.5", 4503599627370498}, {"4503599627370496.5", 4503599627370496}, {"9007199254740991.5", 9007199254740992}, {"9007199254740991.4", 9007199254740991},
		{"18014398509481986", 18014398509481984}, {"18014398509481990", 18014398509481992}, {"9007199254740993e1", 90071992547409936},
		// The least float is 4.9406564584124654e-324, half of it 2.4703282292062327e-324 and more.
		{"5e-324", leastF}, {"4e-324", leastF}, {"3e-324", leastF}, {"2e-324", 0}, {"-2e-324", nought}, {"-3e-324", -leastF},
		{"2.4703282292062327e-324", 0}, {"2.4703282292062328e-324", leastF}, {"7.4109846876186981e-324", leastF}, {"7.4109846876186982e-324", 2 * leastF},
		{"2.2250738585072014e-308", leastN}, {"2.2250738585072011e-308", leastN - leastF}, {"2.2250738585072012e-308", leastN},
		{"1.7976931348623157e308", math.MaxFloat64}, {"1.7976931348623158e308", math.MaxFloat64}, {"-1.7976931348623158e308", -math.MaxFloat64}, {"17976931348623158e292", math.MaxFloat64},
	} {
		checkParse(t, c.s, c.a, api.OK)
	}
}

func TestParseFarBeyondFloats(t *testing.T) {
	// 2^1024 - 2^970 is 1.79769313486231580793e308.
	for _, s := range []string{"1e400", "-1e400", "1e309", "1.7976931348623159e308", "-1.7976931348623159e308", "17976931348623159e292", "1.8e308", "2e308", "99999999999999999e400", "0.0000000000000001e400"} {
		checkParse(t, s, 0, api.ErrGreat)
	}
}

func TestParseRefusesWhatIsNotOfTheForm(t *testing.T) {
	for _, s := range []string{
		"", "-", "--1", "+1", "-+1", " 1", "1 ", "1\n", "1\x00", "\x00", "a", "1a", "1_0", "0x1", "0b1", "1,5", "٣", "1٣", "1\x80",
		".", ".5", "-.5", "1.", "-1.", "1..5", "1.5.5", "1.-5", "1.e3", "1. 5",
		"e", "e3", "-e3", "1e", "1e-", "1e+3", "1e--1", "1E3", "1e1.5", "1e1e1", "1e ", "1.5e", "1.5e-", "1e-x", "1ee1", "1-e1",
		"1e401", "1e-401", "0e401", "1e999", "1e-999", "-1e401", "1e0007", "1e-0007", "1e0400", "1e0000", "1e-0401",
		"123456789012345678", "000000000000000000", "0.00000000000000001", "1.00000000000000000", "12345678901234567.0", "1234567890123456.78", "000000000000000001e1", "12345678901234567.", "123456789012345678e-10",
		"nan", "NaN", "-nan", "Inf", "INF", "infinity", "+inf", "--inf", "inf ", "-inf ", " inf", "in", "-in", "inff", "-", "inf1", "1inf",
		strings.Repeat("0", 1<<20), "1e" + strings.Repeat("0", 1<<20), strings.Repeat("-", 1<<20),
	} {
		if a, e := weigh.Parse(s); e != api.ErrNumber || !same(a, 0) {
			t.Errorf("Parse(%.40q): %v, %d", s, a, int(e))
		}
	}
}

// ofTheForm tells by the words of the document whether a text is one, without a machine.
func ofTheForm(s string) bool {
	all := func(s string, most int) bool {
		return s != "" && len(s) <= most && strings.Trim(s, "0123456789") == ""
	}
	amount, power, hasPower := strings.Cut(strings.TrimPrefix(s, "-"), "e")
	power = strings.TrimPrefix(power, "-")
	if n, _ := strconv.Atoi(power); hasPower && (!all(power, 3) || n > 400) {
		return false
	}
	whole, behind, hasPoint := strings.Cut(amount, ".")
	return all(whole, 17) && (!hasPoint || all(behind, 17-len(whole)))
}

func TestParseOnAllShortTextsAndADraw(t *testing.T) {
	try := func(s string) {
		t.Helper()
		switch {
		case s == "inf" || s == "-inf":
		case !ofTheForm(s):
			checkParse(t, s, 0, api.ErrNumber)
		default:
			want := rounded(exactText(s))
			if want == 0 && s[0] == '-' {
				want = nought
			}
			if math.IsInf(want, 0) {
				checkParse(t, s, 0, api.ErrGreat)
			} else {
				checkParse(t, s, want, api.OK)
			}
		}
	}
	const bytes = "0179.e-+"
	for size, l := 0, []string{""}; size <= 5; size++ {
		longer := []string{}
		for _, s := range l {
			try(s)
			for _, c := range bytes {
				longer = append(longer, s+string(c))
			}
		}
		l = longer
	}
	for c := range 256 {
		b := string([]byte{byte(c)})
		for _, s := range []string{b, "1" + b, b + "1", "1.5" + b, "1." + b, "1e" + b, "1e-" + b, "1e5" + b, "-" + b, "1" + b + "1"} {
			try(s)
		}
	}
	draw := rand.New(rand.NewPCG(4, 4))
	for range 20000 {
		s := strconv.FormatUint(draw.Uint64N(1e17)>>draw.IntN(57), 10)
		if point := draw.IntN(2 * len(s)); point > 0 && point < len(s) {
			s = s[:point] + "." + s[point:]
		}
		try(s + "e" + strconv.Itoa(draw.IntN(680)-350))
		try("-" + s)
	}
}

// 2.2

func TestPrintWrites(t *testing.T) {
	for _, c := range []struct {
		a float64
		s string
	}{
		{0, "0"}, {nought, "-0"}, {inf, "inf"}, {below, "-inf"},
		{0.25, "25e-2"}, {100, "1e2"}, {8, "8"}, {-8, "-8"}, {10, "1e1"}, {120, "12e1"}, {123, "123"}, {0.1, "1e-1"}, {-0.5, "-5e-1"}, {1.5, "15e-1"}, {1e21, "1e21"}, {1e22, "1e22"}, {1e23, "1e23"}, {1e-5, "1e-5"},
		{9007199254740992, "9007199254740992"}, {9007199254740993e1, "9007199254740994e1"}, {0.3, "3e-1"}, {math.Nextafter(0.3, 1), "30000000000000004e-17"},
		{leastF, "5e-324"}, {2 * leastF, "1e-323"}, {3 * leastF, "15e-324"}, {-leastF, "-5e-324"}, {leastN, "22250738585072014e-324"}, {leastN - leastF, "2225073858507201e-323"}, {math.MaxFloat64, "17976931348623157e292"},
		// As near on both sides: the even one.
		{1125899906842624.25, "11258999068426242e-1"}, {1125899906842624.75, "11258999068426248e-1"}, {-1125899906842624.75, "-11258999068426248e-1"},
		// Powers of two, where the nearest of as many digits is read as the float below.
		{math.Ldexp(1, -44), "5684341886080802e-29"}, {math.Ldexp(1, 89), "6189700196426902e11"}, {math.Ldexp(1, 976), "6386688990511104e278"},
		// 9 rounded up to 10.
		{math.Nextafter(1e23, inf), "10000000000000001e7"}, {math.Nextafter(1e23, 0), "9999999999999997e7"},
	} {
		if s := weigh.Print(c.a); s != c.s {
			t.Errorf("Print(%v): %q, want %q", c.a, s, c.s)
		}
	}
	for _, a := range manyNaN {
		if s := weigh.Print(a); s != "nan" {
			t.Errorf("Print of the NaN %x: %q", api.Bits(a), s)
		}
	}
}

// written takes a printed number apart.
func written(t *testing.T, s string) (digits string, power int) {
	t.Helper()
	digits, tail, hasPower := strings.Cut(s, "e")
	power, err := strconv.Atoi(tail)
	bad := hasPower && (err != nil || power == 0 || strconv.Itoa(power) != tail)
	if bad || strings.Trim(digits, "0123456789") != "" || digits == "" || digits[0] == '0' || digits[len(digits)-1] == '0' {
		t.Fatalf("%q is not a whole number and a power", s)
	}
	return digits, power
}

// readAs tells whether digits times 10^power is read as a by the library.
func readAs(a float64, digits *big.Int, power int) bool {
	b, _ := strconv.ParseFloat(digits.String()+"e"+strconv.Itoa(power), 64)
	return a == b
}

// ofDigits is the numbers of so many digits below and above a, with their power of ten.
func ofDigits(a float64, n int) (below, above *big.Int, power int) {
	s := strconv.FormatFloat(a, 'e', 40, 64)
	power, _ = strconv.Atoi(s[strings.Index(s, "e")+1:])
	power -= n - 1
	scaled := new(big.Rat).Mul(new(big.Rat).SetFloat64(a), exactText("1e"+strconv.Itoa(-power)))
	below = new(big.Int).Quo(scaled.Num(), scaled.Denom())
	return below, new(big.Int).Add(below, big.NewInt(1)), power
}

func TestPrintTakesTheFewestDigitsAndOfTheseTheNearest(t *testing.T) {
	for _, a := range finite() {
		if a <= 0 {
			continue
		}
		s := weigh.Print(a)
		digits, power := written(t, s)
		value, exact := exactText(s), new(big.Rat).SetFloat64(a)
		if rounded(value) != a {
			t.Fatalf("Print(%v): %q is not read as it", a, s)
		}
		// A number of one digit less would have one of them beside a that is read as a.
		if n := len(digits) - 1; n > 0 {
			if lo, hi, p := ofDigits(a, n); readAs(a, lo, p) || readAs(a, hi, p) {
				t.Errorf("Print(%v): %q: %v or %v e%d has fewer digits", a, s, lo, hi, p)
			}
		}
		off := new(big.Rat).Sub(value, exact)
		whole, _ := new(big.Int).SetString(digits, 10)
		for _, step := range []int64{-1, 1} {
			other := new(big.Int).Add(whole, big.NewInt(step))
			if !readAs(a, other, power) {
				continue
			}
			otherOff := new(big.Rat).Sub(exactText(other.String()+"e"+strconv.Itoa(power)), exact)
			if c := off.Abs(off).Cmp(otherOff.Abs(otherOff)); c > 0 || c == 0 && whole.Bit(0) == 1 {
				t.Errorf("Print(%v): %q, but %v is nearer or as near and even", a, s, other)
			}
		}
	}
}

func TestPrintOfOneBelowNoughtIsThatOfItsAmount(t *testing.T) {
	for i, a := range finite() {
		if i%9 == 0 && a > 0 && weigh.Print(-a) != "-"+weigh.Print(a) {
			t.Errorf("Print(%v): %q", -a, weigh.Print(-a))
		}
	}
}

// 2.3

func TestNarrowRounds(t *testing.T) {
	edge := math.Ldexp(1, 128) - math.Ldexp(1, 103)
	great := math.Ldexp(1, 128) - math.Ldexp(1, 104)
	p := func(n float64, e int) float64 { return math.Ldexp(n, e) }
	for _, c := range []struct{ a, want float64 }{
		{0, 0}, {inf, inf}, {1, 1}, {0.25, 0.25}, {0.1, 0.100000001490116119384765625}, {1.5, 1.5},
		{16777216, 16777216}, {16777217, 16777216}, {16777219, 16777220}, {math.Nextafter(16777217, inf), 16777218}, {math.Nextafter(16777219, 0), 16777218},
		{1e39, inf}, {math.MaxFloat64, inf}, {p(1, 128), inf}, {edge, inf}, {math.Nextafter(edge, 0), great}, {great, great},
		{p(1, -126), p(1, -126)}, {p(1, -126) - p(1, -149), p(1, -126) - p(1, -149)}, {p(1, -126) - p(1, -150), p(1, -126)}, {p(1, -126) + p(1, -150), p(1, -126)}, {p(1, -126) + p(3, -150), p(1, -126) + p(1, -148)}, {p(1, -126) - p(3, -151), p(1, -126) - p(1, -149)},
		{p(1, -149), p(1, -149)}, {p(1, -150), 0}, {math.Nextafter(p(1, -150), 1), p(1, -149)}, {p(3, -150), p(1, -148)}, {p(5, -150), p(1, -148)}, {math.Nextafter(p(3, -150), 0), p(1, -149)},
		{1e-50, 0}, {leastF, 0}, {leastN, 0}, {p(1, -151), 0},
	} {
		for _, sign := range []float64{1, -1} {
			if a, want := weigh.Narrow(c.a*sign), c.want*sign; !same(a, want) {
				t.Errorf("Narrow(%v): %v, want %v", c.a*sign, a, want)
			}
		}
	}
	for _, a := range manyNaN {
		if b := weigh.Narrow(a); api.Bits(b) != quietNaN {
			t.Errorf("Narrow of the NaN %x: %x", api.Bits(a), api.Bits(b))
		}
	}
}

// narrowable is floats round which binary32 rounds.
func narrowable() []float64 {
	l := finite()
	draw := rand.New(rand.NewPCG(6, 6))
	for range 5000 {
		lo := math.Float32frombits(draw.Uint32() >> 1)
		if hi := math.Nextafter32(lo, float32(inf)); lo < hi && hi < float32(inf) {
			middle := (float64(lo) + float64(hi)) / 2
			l = append(l, float64(lo), middle, math.Nextafter(middle, 0), -math.Nextafter(middle, inf))
		}
	}
	return l
}

func TestNarrowIsTheNearestBinary32(t *testing.T) {
	for _, a := range narrowable() {
		narrow, _ := new(big.Rat).SetFloat64(a).Float32()
		if want := math.Copysign(float64(narrow), a); !same(weigh.Narrow(a), want) {
			t.Errorf("Narrow(%v): %v, want %v", a, weigh.Narrow(a), want)
		}
	}
}

// 2.4

func TestOrderIsTotal(t *testing.T) {
	ranks := [][]float64{{below}, {-math.MaxFloat64}, {-2}, {-1}, {-leastN}, {-leastF}, {nought}, {0}, {leastF}, {leastN}, {1}, {math.Nextafter(1, 2)}, {2}, {math.MaxFloat64}, {inf}, manyNaN}
	for i, l := range ranks {
		for j, m := range ranks {
			for _, a := range l {
				for _, b := range m {
					if n := weigh.Order(a, b); n != cmp.Compare(i, j) {
						t.Errorf("Order(%v, %v): %d, want %d", a, b, n, cmp.Compare(i, j))
					}
				}
			}
		}
	}
	l := finite()
	for i, a := range l[1:] {
		b := l[i]
		if n := weigh.Order(a, b); a != b && n != cmp.Compare(a, b) || a == b && n != cmp.Compare(math.Copysign(1, a), math.Copysign(1, b)) {
			t.Errorf("Order(%v, %v): %d", a, b, n)
		}
	}
}

// 2.5

func TestSumAddsInOrder(t *testing.T) {
	for _, c := range []struct {
		l    []float64
		want float64
	}{
		{nil, 0}, {[]float64{}, 0}, {[]float64{nought}, 0}, {[]float64{nought, nought}, 0}, {[]float64{0.1}, 0.1}, {[]float64{-3}, -3},
		{[]float64{1e16, 1, -1e16}, 0}, {[]float64{1e16, -1e16, 1}, 1}, {[]float64{1, 1e16, -1e16}, 0}, {[]float64{0.1, 0.2, 0.3}, 0.6000000000000001}, {[]float64{0.3, 0.2, 0.1}, 0.6},
		{[]float64{1e16, 1, 1}, 1e16}, {[]float64{1, 1, 1e16}, 1e16 + 2}, {[]float64{1, 1e16, 1, -1e16}, 0}, {[]float64{1, -1}, 0},
		{[]float64{math.MaxFloat64, math.MaxFloat64, -math.MaxFloat64}, inf}, {[]float64{inf, 1}, inf}, {[]float64{1, below}, below}, {[]float64{inf, inf}, inf},
	} {
		if a := weigh.Sum(c.l...); !same(a, c.want) {
			t.Errorf("Sum(%v): %v, want %v", c.l, a, c.want)
		}
	}
	for _, l := range [][]float64{{inf, below}, {1, math.NaN(), 2}, {math.MaxFloat64, math.MaxFloat64, below}} {
		if a := weigh.Sum(l...); !math.IsNaN(a) {
			t.Errorf("Sum(%v): %v", l, a)
		}
	}
}

func TestPairsAddsByHalves(t *testing.T) {
	for _, c := range []struct {
		l    []float64
		want float64
	}{
		{nil, 0}, {[]float64{}, 0}, {[]float64{nought}, nought}, {[]float64{nought, nought}, nought}, {[]float64{0, nought}, 0}, {[]float64{0.1}, 0.1}, {[]float64{inf}, inf},
		{[]float64{1e16, 1, -1e16}, 0}, {[]float64{1, 1e16, -1e16}, 1}, {[]float64{1e16, -1e16, 1}, 0}, {[]float64{1e16, 1, 1}, 1e16 + 2}, {[]float64{1, 1, 1e16}, 1e16},
		{[]float64{1, 1e16, 1, -1e16}, 0}, {[]float64{1, 1, 1e16, -1e16}, 2}, {[]float64{1e16, 1, 1, 1, 1}, 1e16 + 4}, {[]float64{1, 1, 1, 1, 1e16}, 1e16 + 2}, {[]float64{0.1, 0.2, 0.3}, 0.6},
		{[]float64{math.MaxFloat64, math.MaxFloat64, -math.MaxFloat64}, math.MaxFloat64}, {[]float64{inf, 1, 1}, inf},
	} {
		if a := weigh.Pairs(c.l...); !same(a, c.want) {
			t.Errorf("Pairs(%v): %v, want %v", c.l, a, c.want)
		}
	}
	for _, l := range [][]float64{{math.NaN()}, {inf, below}, {1, math.NaN(), 2}} {
		if a := weigh.Pairs(l...); !math.IsNaN(a) {
			t.Errorf("Pairs(%v): %v", l, a)
		}
	}
}

// lists is lists of finite floats whose sums cancel, tie and carry.
func lists() [][]float64 {
	all := finite()
	draw := rand.New(rand.NewPCG(8, 8))
	l := [][]float64{}
	for range 1500 {
		one := []float64{}
		for range 1 + draw.IntN(12) {
			a := all[draw.IntN(len(all))]
			one = append(one, a)
			if draw.IntN(3) == 0 {
				one = append(one, -a)
			}
			if draw.IntN(4) == 0 {
				one = append(one, math.Ldexp(a, -53), math.Ldexp(a, -54))
			}
		}
		l = append(l, one)
	}
	return l
}

func exactSum(l []float64) *big.Rat {
	sum := new(big.Rat)
	for _, a := range l {
		sum.Add(sum, new(big.Rat).SetFloat64(a))
	}
	return sum
}

func TestPairsOfMoreIsTheSumOfPairs(t *testing.T) {
	for _, l := range lists() {
		half := len(l) / 2
		if len(l) > 1 && !same(weigh.Pairs(l...), weigh.Pairs(l[:half]...)+weigh.Pairs(l[half:]...)) {
			t.Errorf("Pairs(%v): %v", l, weigh.Pairs(l...))
		}
	}
}

func TestExactRoundsOnce(t *testing.T) {
	top, half := math.MaxFloat64, math.Ldexp(1, 970)
	for _, c := range []struct {
		l    []float64
		want float64
	}{
		{nil, 0}, {[]float64{}, 0}, {[]float64{nought}, 0}, {[]float64{nought, nought}, 0}, {[]float64{-0.5, 0.5}, 0}, {[]float64{0.1}, 0.1}, {[]float64{-leastF}, -leastF}, {[]float64{top}, top}, {[]float64{leastF, leastF, leastF}, 3 * leastF},
		{[]float64{1e16, 1, -1e16}, 1}, {[]float64{1e300, 1e-300, -1e300}, 1e-300}, {[]float64{0.1, 0.2, 0.3}, 0.6}, {[]float64{top, -leastF}, top}, {[]float64{top, leastF, -top}, leastF},
		{[]float64{9007199254740992, 1}, 9007199254740992}, {[]float64{9007199254740994, 1}, 9007199254740996}, {[]float64{9007199254740992, 1, leastF}, 9007199254740994}, {[]float64{-9007199254740992, -1, -leastF}, -9007199254740994}, {[]float64{9007199254740994, 1, -leastF}, 9007199254740994},
		{[]float64{top, top, -top}, top}, {[]float64{top, top}, inf}, {[]float64{-top, -top}, below}, {[]float64{top, half}, inf}, {[]float64{-top, -half}, below}, {[]float64{top, half, -leastF}, top}, {[]float64{top, math.Nextafter(half, 0)}, top}, {[]float64{top, math.Ldexp(1, 969)}, top},
		{[]float64{inf}, inf}, {[]float64{inf, 1, inf}, inf}, {[]float64{-top, inf, -top}, inf}, {[]float64{1, below}, below}, {[]float64{top, top, below}, below},
	} {
		if a := weigh.Exact(c.l...); !same(a, c.want) {
			t.Errorf("Exact(%v): %v, want %v", c.l, a, c.want)
		}
	}
	for _, l := range lists() {
		if a, want := weigh.Exact(l...), rounded(exactSum(l)); !same(a, want) {
			t.Errorf("Exact(%v): %v, want %v", l, a, want)
		}
	}
}

func TestExactOfNaNsAndBothInfinities(t *testing.T) {
	l := [][]float64{{inf, below}, {below, 1, inf}, {inf, inf, below}, {math.MaxFloat64, inf, math.MaxFloat64, below}}
	for _, a := range manyNaN {
		l = append(l, []float64{a}, []float64{1, a}, []float64{a, inf}, []float64{below, a, 0}, []float64{a, a}, []float64{inf, a, below})
	}
	for _, c := range l {
		if a := weigh.Exact(c...); api.Bits(a) != quietNaN {
			t.Errorf("Exact(%v): %x", c, api.Bits(a))
		}
	}
}

// 2.6

func TestMeanRoundsOnce(t *testing.T) {
	top := math.MaxFloat64
	for _, c := range []struct {
		l    []float64
		want float64
	}{
		{[]float64{1, 2}, 1.5}, {[]float64{0.1}, 0.1}, {[]float64{1, -1}, 0}, {[]float64{nought}, 0}, {[]float64{nought, nought}, 0}, {[]float64{-1, -2}, -1.5},
		{[]float64{1, 1, 0}, 0.6666666666666666}, {[]float64{1, 0, 0}, 1.0 / 3}, {[]float64{-1, 0, 0}, -1.0 / 3}, {[]float64{1e16, 1, -1e16}, 1.0 / 3},
		{[]float64{top, top}, top}, {[]float64{top, top, top}, top}, {[]float64{-top, -top}, -top}, {[]float64{top, top, -top}, top / 3},
		{[]float64{leastF, 0}, 0}, {[]float64{-leastF, 0}, nought}, {[]float64{3 * leastF, 0}, 2 * leastF}, {[]float64{leastF, leastF, 0}, leastF}, {[]float64{leastF, 0, 0}, 0}, {[]float64{-leastF, 0, 0}, nought}, {[]float64{leastF, leastF}, leastF},
		{[]float64{9007199254740993 - 1, 9007199254740994}, 9007199254740992}, {[]float64{9007199254740994, 9007199254740996}, 9007199254740996},
	} {
		if a, ok := weigh.Mean(c.l...); !ok || !same(a, c.want) {
			t.Errorf("Mean(%v): %v, %v, want %v", c.l, a, ok, c.want)
		}
	}
	for _, l := range lists() {
		sum := exactSum(l)
		want := rounded(sum.Mul(sum, big.NewRat(1, int64(len(l)))))
		if sum.Sign() < 0 {
			want = math.Copysign(want, -1)
		}
		if a, ok := weigh.Mean(l...); !ok || !same(a, want) {
			t.Errorf("Mean(%v): %v, %v, want %v", l, a, ok, want)
		}
	}
}

func TestMeanOfNoneOrOfWhatIsNotFinite(t *testing.T) {
	l := [][]float64{nil, {}, {inf}, {below}, {1, inf}, {inf, below}, {below, 1, 2}}
	for _, a := range manyNaN {
		l = append(l, []float64{a}, []float64{1, a}, []float64{a, inf})
	}
	for _, c := range l {
		if a, ok := weigh.Mean(c...); ok || !same(a, 0) {
			t.Errorf("Mean(%v): %v, %v", c, a, ok)
		}
	}
}

// 2.7

func TestPrintedIsReadAsItWas(t *testing.T) {
	for _, a := range append(finite(), inf, below, nought) {
		if b, e := weigh.Parse(weigh.Print(a)); e != api.OK || !same(a, b) {
			t.Errorf("Parse(%q): %x, %d, want %x", weigh.Print(a), api.Bits(b), int(e), api.Bits(a))
		}
	}
}

func TestNoTextOfFewerDigitsIsReadAsIt(t *testing.T) {
	// Every number of one or two digits, at every power: what it is read as is not printed with more.
	for digits := 1; digits < 100; digits++ {
		for power := -api.MaxPower; power <= api.MaxPower; power++ {
			s := strconv.Itoa(digits) + "e" + strconv.Itoa(power)
			a, e := weigh.Parse(s)
			if e != api.OK || a == 0 {
				continue
			}
			if p, _, _ := strings.Cut(weigh.Print(a), "e"); len(p) > len(strconv.Itoa(digits)) {
				t.Errorf("%q is read as %v, which is printed %q", s, a, weigh.Print(a))
			}
		}
	}
	draw := rand.New(rand.NewPCG(10, 10))
	for range 3000 {
		digits := strconv.FormatUint(1+draw.Uint64N(1e17)>>draw.IntN(56), 10)
		a, e := weigh.Parse(digits + "e" + strconv.Itoa(draw.IntN(640)-340))
		if e != api.OK || a == 0 {
			continue
		}
		if p, _, _ := strings.Cut(weigh.Print(a), "e"); len(p) > len(digits) {
			t.Errorf("%v was read of %q, and is printed %q", a, digits, weigh.Print(a))
		}
	}
}

// 2.8

func TestParseIsMonotone(t *testing.T) {
	texts := []string{"0", "-0", "0e400", "1e-400", "2e-324", "3e-324", "9007199254740992", "9007199254740993", "9007199254740993.0", "9007199254740994", "1.7976931348623158e308", "1e0", "1.0", "10e-1", "0.1", "1e-1", "100e-3"}
	draw := rand.New(rand.NewPCG(12, 12))
	for range 3000 {
		digits := strconv.FormatUint(draw.Uint64N(1e17)>>draw.IntN(57), 10)
		texts = append(texts, digits+"e"+strconv.Itoa(draw.IntN(620)-330), digits)
	}
	// Those beside a middle between two floats are where it could go wrong.
	for n := range 400 {
		texts = append(texts, strconv.Itoa(9007199254740990+n), strconv.Itoa(n)+"e-324", "2."+strconv.Itoa(2250738585072000+n/10)+"e-308")
	}
	for _, s := range slices.Clone(texts) {
		texts = append(texts, "-"+strings.TrimPrefix(s, "-"))
	}
	slices.SortStableFunc(texts, func(s, t string) int { return exactText(s).Cmp(exactText(t)) })
	last := below
	for _, s := range texts {
		a, e := weigh.Parse(s)
		if e != api.OK {
			t.Fatalf("Parse(%q): %d", s, int(e))
		}
		if a += 0; weigh.Order(last, a) > 0 {
			t.Errorf("Parse(%q): %v, below %v", s, a, last)
		}
		last = a
	}
}

// 2.9

func TestExactAndMeanHangOnNoOrder(t *testing.T) {
	draw := rand.New(rand.NewPCG(14, 14))
	odd := append([]float64{inf, below, nought, 0}, manyNaN...)
	for i, l := range lists() {
		if i%4 == 0 {
			l = append(l, odd[draw.IntN(len(odd))], odd[draw.IntN(len(odd))])
		}
		exact := weigh.Exact(l...)
		mean, ok := weigh.Mean(l...)
		for range 4 {
			draw.Shuffle(len(l), func(i, j int) { l[i], l[j] = l[j], l[i] })
			if a := weigh.Exact(l...); !same(a, exact) {
				t.Errorf("Exact(%v): %v, in another order %v", l, a, exact)
			}
			if a, k := weigh.Mean(l...); k != ok || !same(a, mean) {
				t.Errorf("Mean(%v): %v, %v, in another order %v, %v", l, a, k, mean, ok)
			}
		}
	}
}

func TestNarrowAgainAndInOrder(t *testing.T) {
	l := append(narrowable(), inf, below)
	slices.SortFunc(l, weigh.Order)
	last := below
	for _, a := range append(l, manyNaN...) {
		b := weigh.Narrow(a)
		if c := weigh.Narrow(b); !same(b, c) {
			t.Errorf("Narrow(%v): %v, again %v", a, b, c)
		}
		if weigh.Order(last, b) > 0 {
			t.Errorf("Narrow(%v): %v, below %v", a, b, last)
		}
		last = b
	}
}

// The rules that hold everywhere.

func TestListsStayAsTheyAre(t *testing.T) {
	room := []float64{7, 3, inf, 2, 1, nought, 5, 6}
	kept := slices.Clone(room)
	l := room[1:5]
	weigh.Sum(l...)
	weigh.Pairs(l...)
	weigh.Exact(l...)
	weigh.Mean(l...)
	for i := range room {
		if !same(room[i], kept[i]) {
			t.Errorf("number %d was %v and is %v", i, kept[i], room[i])
		}
	}
}
