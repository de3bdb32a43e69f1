package puny_test

import (
	"math"
	"math/big"
	"math/rand/v2"
	"slices"
	"strings"
	"testing"

	"endonym/api"
	"endonym/puny"
)

const maxDelta = 1<<31 - 1

// edges are the first and the last number of what the chapter tells apart.
var edges = []rune{0, 0x2D, 0x41, 0x5A, 0x61, 0x7A, 0x7F, 0x80, 0x81, 0xDF, 0x7FF, 0x800, 0x4E2D, 0xD7FF, 0xE000, 0xFFFF, 0x10000, 0x10FFFE, 0x10FFFF}

// unsound are numbers that are no scalar values.
var unsound = []rune{-1, -0x80, math.MinInt32, 0xD800, 0xDBFF, 0xDC00, 0xDFFF, 0x110000, 0x110061, 0x200000, math.MaxInt32}

func points(c ...rune) []rune { return c }

// many is n points that are alike.
func many(n int, c rune) []rune { return slices.Repeat(points(c), n) }

// with is a sequence with a point put in.
func with(x []rune, at int, c rune) []rune { return slices.Insert(slices.Clone(x), at, c) }

// long tells a text or what ahead of it is to be seen.
func long(s string) string {
	if len(s) > 80 {
		return s[:80] + ".."
	}
	return s
}

func checkEncode(t *testing.T, x []rune, want string, wantE api.Errno) {
	t.Helper()
	if s, e := puny.Encode(x); s != want || e != wantE {
		t.Errorf("11.2: Encode of %d points, %X: %q, %d, want %q, %d", len(x), x[:min(len(x), 12)], long(s), int(e), long(want), int(wantE))
	}
}

func checkDecode(t *testing.T, s string, want []rune, wantE api.Errno) {
	t.Helper()
	if x, e := puny.Decode(s); !slices.Equal(x, want) || e != wantE {
		t.Errorf("11.3: Decode of %d bytes, %q: %X, %d, want %X, %d", len(s), long(s), x[:min(len(x), 12)], int(e), want[:min(len(want), 12)], int(wantE))
	}
}

// checkBoth holds a sequence and its text against each other, both ways.
func checkBoth(t *testing.T, x []rune, s string) {
	t.Helper()
	checkEncode(t, x, s, api.OK)
	checkDecode(t, s, x, api.OK)
}

func checkWords(t *testing.T, s string) {
	t.Helper()
	want, wantE := readByWords(s)
	checkDecode(t, s, want, wantE)
}

// drawn is a sound sequence of at most most points.
func drawn(draw *rand.Rand, most int) []rune {
	x := make([]rune, draw.IntN(most+1))
	kind := draw.IntN(4)
	for i := range x {
		c := rune(draw.IntN(0x110000)) >> draw.IntN(21)
		switch {
		case kind == 0:
			c = rune(draw.IntN(0x80))
		case kind == 1:
			c = 0x80 + c%0x10FF80
		case kind == 2 && i > 0 && draw.IntN(2) == 0:
			c = x[draw.IntN(i)]
		}
		if c >= 0xD800 && c <= 0xDFFF {
			c = edges[draw.IntN(len(edges))]
		}
		x[i] = c
	}
	return x
}

// eachText goes through all texts of at most most bytes of an alphabet.
func eachText(alphabet string, most int, look func(s string)) {
	last := []string{""}
	look("")
	for range most {
		var next []string
		for _, s := range last {
			for i := range len(alphabet) {
				next = append(next, s+alphabet[i:i+1])
				look(next[len(next)-1])
			}
		}
		last = next
	}
}

func TestAdapt(t *testing.T) {
	for _, c := range []struct {
		delta, points int
		first         bool
		want          int
	}{
		{0, 1, true, 0}, {0, 1, false, 0}, {1, 1, false, 0}, {2, 1, false, 1}, {699, 1, true, 0}, {700, 1, true, 1}, {19853, 1, true, 21}, {100, 3, false, 22},
		// 455 and 456 behind the two divisions, without first and with it, with nothing to add
		{910, 1000, false, 33}, {911, 1000, false, 33}, {912, 1000, false, 45},
		{318500, 1000, true, 33}, {319199, 1000, true, 33}, {319200, 1000, true, 45},
		// 456 by what is added alone: 455 and a 455th or a 456th of it
		{910, 455, false, 45}, {910, 456, false, 33}, {318500, 455, true, 45}, {318500, 456, true, 33},
		{455, 1, false, 33}, {456, 1, false, 45},
		// once more above 455 behind the first division by 35
		{31918, 1000000, false, 69}, {31920, 1000000, false, 81},
		// below 0 and below 1
		{-5, -5, false, 0}, {-1, 1, true, 0}, {-1400, 1, true, 0}, {-2000, 1, false, 0}, {math.MinInt, 1, false, 0}, {math.MinInt, 1, true, 0},
		{2, 0, false, 1}, {2, -1, false, 1}, {19853, 0, true, 21}, {19853, -7, true, 21}, {19853, math.MinInt, true, 21}, {math.MinInt, math.MinInt, true, 0},
		// as great as may be
		{maxDelta, 1, false, 198}, {maxDelta, 1, true, 136}, {maxDelta, 65536, false, 192},
		{math.MaxInt, 1, false, 421}, {math.MaxInt, 1, true, 356}, {math.MaxInt, math.MaxInt, false, 415},
	} {
		if bias := puny.Adapt(c.delta, c.points, c.first); bias != c.want {
			t.Errorf("11.1: Adapt(%d, %d, %v): %d, want %d", c.delta, c.points, c.first, bias, c.want)
		}
	}
}

func TestAdaptByWords(t *testing.T) {
	check := func(delta, points int, first bool) {
		if bias, want := puny.Adapt(delta, points, first), nextBias(delta, points, first); bias != want {
			t.Fatalf("11.1: Adapt(%d, %d, %v): %d, want %d", delta, points, first, bias, want)
		}
	}
	for delta := -3; delta < 3000; delta++ {
		for points := -2; points < 40; points++ {
			check(delta, points, true)
			check(delta, points, false)
		}
	}
	draw := rand.New(rand.NewPCG(11, 1))
	for range 200_000 {
		delta, points := int(draw.Uint64()>>draw.IntN(64)), int(draw.Uint64()>>draw.IntN(64))
		check(delta, points, draw.IntN(2) == 0)
	}
}

// texts are sequences and what they are written as.
var texts = []struct {
	x []rune
	s string
}{
	{points(0x62, 0xFC, 0x63, 0x68, 0x65, 0x72), "bcher-kva"},
	{points(0x66, 0x61, 0xDF), "fa-hia"},
	{points(0xDF), "zca"},
	{points(0x61, 0x62), "ab-"},
	{nil, ""},
	{points(0x2D), "--"},
	{points(0x2D, 0x2D), "---"},
	{points(0x2D, 0x61), "-a-"},
	{points(0x61, 0x2D), "a--"},
	{points(0x61, 0x2D, 0x62), "a-b-"},
	{points(0x2D, 0x80), "--ba"},
	{points(0x80, 0x2D), "--a"},
	{points(0x41, 0x42), "AB-"},
	{points(0, 0x7F), "\x00\x7F-"},
	{points(0x20, 0x2E, 0x0A), " .\n-"},
	{points(0x80), "a"},
	{points(0x80, 0x80), "aa"},
	{points(0x81), "ba"},
	{points(0x61, 0x80), "a-ba"},
	{points(0x80, 0x61), "a-a"},
	{points(0x7F, 0x80), "\x7F-ba"},
	{points(0x3C3, 0x3C2), "3xab"},
	{points(0x3C3, 0x3C3), "4xaa"},
	{points(0xD7FF), "hb9b"},
	{points(0xE000), "0y0c"},
	{points(0x10FFFF), "dn32g"},
	{points(0xD7FF, 0xE000), "hb9bk0m"},
	{points(0x10FFFF, 0x80, 0x10FFFF), "a97093tba"},
	{points(0xE000, 0xD7FF, 0x2D, 0x10000), "--oc4g08rks8a"},
	{points(0x644, 0x64A, 0x647, 0x645, 0x627, 0x628, 0x62A, 0x643, 0x644, 0x645, 0x648, 0x634, 0x639, 0x631, 0x628, 0x64A, 0x61F), "egbpdaj6bu4bxfgehfvwxn"},
	{points(0x4ED6, 0x4EEC, 0x4E3A, 0x4EC0, 0x4E48, 0x4E0D, 0x8BF4, 0x4E2D, 0x6587), "ihqwcrb4cv8a8dqg056pqjye"},
	{points(0x4ED6, 0x5011, 0x7232, 0x4EC0, 0x9EBD, 0x4E0D, 0x8AAA, 0x4E2D, 0x6587), "ihqwctvzc91f659drss3x8bo0yb"},
	{points(0x33, 0x5E74, 0x42, 0x7D44, 0x91D1, 0x516B, 0x5148, 0x751F), "3B-ww4c5e180e575a65lsy2b"},
	{points(0x3072, 0x3068, 0x3064, 0x5C4B, 0x6839, 0x306E, 0x4E0B, 0x32), "2-u9tlzr9756bt3uc0v"},
	{points(0x305D, 0x306E, 0x30B9, 0x30D4, 0x30FC, 0x30C9, 0x3067), "d9juau41awczczp"},
	{append([]rune("Hello-Another-Way-"), 0x305D, 0x308C, 0x305E, 0x308C, 0x306E, 0x5834, 0x6240), "Hello-Another-Way--fc4qua05auwb3674vfr0b"},
	{[]rune("-> $1.00 <-"), "-> $1.00 <--"},
}

func TestTexts(t *testing.T) {
	for _, c := range texts {
		checkBoth(t, c.x, c.s)
	}
	checkEncode(t, []rune{}, "", api.OK)
}

func TestEncodeRefuses(t *testing.T) {
	for _, c := range unsound {
		for _, x := range [][]rune{nil, edges, many(api.MaxPoints-1, 0x61)} {
			for _, at := range []int{0, len(x) / 2, len(x)} {
				checkEncode(t, with(x, at, c), "", api.ErrScalar)
			}
		}
	}
	for _, c := range edges {
		checkEncode(t, many(api.MaxPoints+1, c), "", api.ErrLong)
	}
	checkEncode(t, with(many(2000, 0), 2000, 0x10FFFF), "", api.ErrOver)
	checkEncode(t, with(many(api.MaxPoints-1, 0x61), 0, 0x10FFFF), "", api.ErrOver)
}

func TestEncodeTellsTheFirstRefusal(t *testing.T) {
	tooMany := many(api.MaxPoints, 0x61)
	for _, c := range unsound {
		for _, at := range []int{0, api.MaxPoints} {
			checkEncode(t, with(tooMany, at, c), "", api.ErrLong)
		}
	}
	checkEncode(t, with(tooMany, 0, 0x10FFFF), "", api.ErrLong)
	over := with(many(2000, 0), 2000, 0x10FFFF)
	for _, c := range unsound {
		for _, at := range []int{0, len(over)} {
			checkEncode(t, with(over, at, c), "", api.ErrScalar)
		}
		checkEncode(t, with(with(tooMany, 0, 0x10FFFF), 0, c), "", api.ErrLong)
	}
}

func TestEncodeAtMaxDelta(t *testing.T) {
	// the one number of a point among 2,000: 2,001 states a code point
	plain := many(2000, 0x61)
	c, at := rune(0x80+maxDelta/2001), maxDelta%2001
	checkBoth(t, with(plain, at, c), strings.Repeat("a", 2000)+"-w416146o")
	checkEncode(t, with(plain, at+1, c), "", api.ErrOver)
	checkEncode(t, with(plain, 0, c+1), "", api.ErrOver)

	// the second one, behind one that put in the point 80 at the sixth place: it counts from the seventh on
	grown := with(many(2499, 0x61), 5, 0x80)
	c, at = rune(0x80+(maxDelta+6)/2501), (maxDelta+6)%2501
	bias := nextBias(5, 2500, true)
	ahead := strings.Repeat("a", 2499) + "-" + small(5, 72)
	checkBoth(t, with(grown, at, c), ahead+small(maxDelta, bias))
	checkEncode(t, with(grown, at+1, c), "", api.ErrOver)
	checkDecode(t, ahead+small(maxDelta+1, bias), nil, api.ErrOver)

	// the greatest numbers behind one that is too great do not take it back
	checkEncode(t, append(with(plain, at, 0x10FFFF), 0x10FFFF), "", api.ErrOver)
}

func TestDecodeAtMaxDelta(t *testing.T) {
	for _, c := range []struct {
		value *big.Int
		e     api.Errno
	}{
		{big.NewInt(maxDelta), api.ErrScalar},
		{big.NewInt(maxDelta + 1), api.ErrOver},
		{big.NewInt(1 << 32), api.ErrOver},
		{big.NewInt(1<<32 + 5), api.ErrOver},
		{big.NewInt(math.MaxInt64), api.ErrOver},
		{new(big.Int).Lsh(big.NewInt(1), 63), api.ErrOver},
		{new(big.Int).Lsh(big.NewInt(1), 64), api.ErrOver},
		{new(big.Int).Lsh(big.NewInt(3), 64), api.ErrOver},
		{new(big.Int).Lsh(big.NewInt(1), 128), api.ErrOver},
		{new(big.Int).Add(new(big.Int).Lsh(big.NewInt(1), 64), big.NewInt(5)), api.ErrOver},
	} {
		s := number(c.value, 72)
		checkDecode(t, s, nil, c.e)
		checkDecode(t, "ab-"+s, nil, c.e)
		checkDecode(t, s+"aa", nil, c.e)
		checkDecode(t, s+"!", nil, c.e)
		checkDecode(t, s+"z", nil, c.e)
		// the number is read to its end ahead of its value being asked
		for cut := 1; cut < len(s); cut++ {
			checkDecode(t, s[:cut], nil, api.ErrCut)
			checkDecode(t, s[:cut]+"!"+s[cut:], nil, api.ErrDigit)
			checkDecode(t, s[:cut]+"!", nil, api.ErrDigit)
		}
	}
	checkDecode(t, "w416146o", nil, api.ErrScalar)
	checkDecode(t, "x416146o", nil, api.ErrOver)
	// too great a number, though what it would put in is a scalar value
	plain := strings.Repeat("a", 60_000)
	checkDecode(t, plain+"-x416146o", nil, api.ErrOver)
	checkDecode(t, plain+"-w416146o", with(many(60_000, 0x61), maxDelta%60_001, 0x80+maxDelta/60_001), api.OK)
}

func TestDecodeReadsLongNumbers(t *testing.T) {
	for _, b := range "0589" {
		for n := 10; n < 300; n++ {
			s := strings.Repeat(string(b), n)
			checkDecode(t, s, nil, api.ErrCut)
			for _, last := range "azAZ" {
				checkDecode(t, s+string(last), nil, api.ErrOver)
			}
			checkDecode(t, s+"!a", nil, api.ErrDigit)
		}
		s := strings.Repeat(string(b), api.MaxPoints-1)
		checkDecode(t, s, nil, api.ErrCut)
		checkDecode(t, s+"a", nil, api.ErrOver)
		checkDecode(t, s+"!", nil, api.ErrDigit)
	}
	draw := rand.New(rand.NewPCG(11, 2))
	for range 50_000 {
		b := make([]byte, draw.IntN(40))
		for i := range b {
			b[i] = '0' + byte(draw.IntN(10))
		}
		checkWords(t, string(b)+string(digits[draw.IntN(36)])+"a")
	}
}

func TestDecodePutsInScalarValuesAlone(t *testing.T) {
	for _, c := range edges {
		if c >= 0x80 {
			checkDecode(t, small(int(c)-0x80, 72), points(c), api.OK)
		}
	}
	for _, c := range []int{0xD800, 0xD801, 0xDBFF, 0xDC00, 0xDFFF, 0x110000, 0x110080, 0x1FFFFF, maxDelta / 2} {
		checkDecode(t, small(c-0x80, 72), nil, api.ErrScalar)
		checkDecode(t, "a-"+small(2*(c-0x80), 72), nil, api.ErrScalar)
		checkDecode(t, "a-"+small(2*(c-0x80)+1, 72), nil, api.ErrScalar)
	}
	// a later number that goes on from the greatest code point, and one that goes over those that are none
	bias := nextBias(0x10FF7F, 1, true)
	checkDecode(t, "dn32g"+small(0, bias), points(0x10FFFF, 0x10FFFF), api.OK)
	checkDecode(t, "dn32g"+small(1, bias), nil, api.ErrScalar)
	checkDecode(t, "dn32g"+small(maxDelta, bias), nil, api.ErrScalar)
	bias = nextBias(0xD77F, 1, true)
	checkDecode(t, "hb9b"+small(2*0x801-1, bias), points(0xE000, 0xD7FF), api.OK)
	checkDecode(t, "hb9b"+small(2*0x801-2, bias), nil, api.ErrScalar)
	checkDecode(t, "hb9b"+small(1, bias), nil, api.ErrScalar)
	checkDecode(t, "hb9b"+small(0, bias), points(0xD7FF, 0xD7FF), api.OK)
}

func TestDecodeRefuses(t *testing.T) {
	for _, s := range []string{"-", "-abc", "-a", "-9", "a b", "!", "z!", "ab-!", "a.", "a/a", "a:a", "a@a", "a[a", "a`a", "a{a", "\x00", "\x7F", "a\n", "ab- "} {
		checkDecode(t, s, nil, api.ErrDigit)
	}
	for _, s := range []string{"z", "zc", "b", "ab-b", "a-b", "ab-z", "--b", "99999", "99999999", "zca9", "bcher-kv", "bcher-k", "AB-Z"} {
		checkDecode(t, s, nil, api.ErrCut)
	}
	for _, b := range []string{"\x80", "\xBF", "\xC3", "\xFF", "\u00FC", "\u4E2D"} {
		for _, s := range []string{"", "a", "a-", "bcher-kva", "--", "bcher", strings.Repeat("a", api.MaxPoints-10)} {
			for _, at := range []int{0, len(s) / 2, len(s)} {
				checkDecode(t, s[:at]+b+s[at:], nil, api.ErrBasic)
			}
		}
	}
	for _, s := range []string{"99999999a", "a-99999999a", "x416146o"} {
		checkDecode(t, s, nil, api.ErrOver)
	}
	for _, s := range []string{"9999999a", "en32g", "ib9b", "zy0c"} {
		checkDecode(t, s, nil, api.ErrScalar)
	}
}

func TestDecodeTellsTheFirstRefusal(t *testing.T) {
	full := strings.Repeat("a", api.MaxPoints)
	for _, s := range []string{"\xFF", "!", "z", "-", "99999999a", "en32g", "9999!\xFF", "-\xFF"} {
		checkDecode(t, full+s, nil, api.ErrLong)
		checkDecode(t, s+full, nil, api.ErrLong)
	}
	for _, s := range []string{"-", "!", "ab-!", "z", "99999999", "99999999a", "en32g"} {
		checkDecode(t, s+"\x80", nil, api.ErrBasic)
		checkDecode(t, "\x80"+s, nil, api.ErrBasic)
	}
	// of one number: no digit or none left, ahead of what it stands for
	checkDecode(t, "99999999!", nil, api.ErrDigit)
	checkDecode(t, "99999999!a", nil, api.ErrDigit)
	checkDecode(t, "99999999", nil, api.ErrCut)
	checkDecode(t, "en32", nil, api.ErrCut)
	checkDecode(t, "en32!g", nil, api.ErrDigit)
	checkDecode(t, "z!", nil, api.ErrDigit)
	checkDecode(t, "99999999a", nil, api.ErrOver)
	// of two numbers: whatever is wrong with the first one
	for _, first := range []struct {
		s string
		e api.Errno
	}{
		{"99999999a", api.ErrOver}, {"ab-99999999a", api.ErrOver},
		{"en32g", api.ErrScalar}, {"ib9b", api.ErrScalar}, {"ab-" + small(3*(0x110000-0x80), 72), api.ErrScalar}, {"ab-" + small(3*(0xD800-0x80), 72), api.ErrScalar},
	} {
		for _, next := range []string{"", "!", "z", "99999999a", "en32g", "9", "z!", "a", "9!"} {
			checkDecode(t, first.s+next, nil, first.e)
		}
	}
	for _, next := range []struct {
		s string
		e api.Errno
	}{{"!", api.ErrDigit}, {"9", api.ErrCut}, {"9!", api.ErrDigit}, {"99999999999a", api.ErrOver}, {"999999a", api.ErrScalar}} {
		checkDecode(t, "zca"+next.s, nil, next.e)
	}
}

func TestDecodeCutsAtTheLastHyphen(t *testing.T) {
	for _, c := range []struct {
		s string
		x []rune
		e api.Errno
	}{
		{"", nil, api.OK}, {"a", points(0x80), api.OK}, {"zca", points(0xDF), api.OK}, {"aa", points(0x80, 0x80), api.OK},
		{"-", nil, api.ErrDigit}, {"-a", nil, api.ErrDigit}, {"-abc", nil, api.ErrDigit},
		{"--", points(0x2D), api.OK}, {"--a", points(0x80, 0x2D), api.OK}, {"-a-", points(0x2D, 0x61), api.OK}, {"-a-a", points(0x80, 0x2D, 0x61), api.OK},
		{"---", points(0x2D, 0x2D), api.OK}, {"---a", points(0x80, 0x2D, 0x2D), api.OK}, {"----", points(0x2D, 0x2D, 0x2D), api.OK},
		{"a-", points(0x61), api.OK}, {"a--", points(0x61, 0x2D), api.OK}, {"a-b-", points(0x61, 0x2D, 0x62), api.OK}, {"a-a-a", points(0x80, 0x61, 0x2D, 0x61), api.OK},
		{"a-b-c-", points(0x61, 0x2D, 0x62, 0x2D, 0x63), api.OK}, {"--b", nil, api.ErrCut}, {"a-!-a", points(0x80, 0x61, 0x2D, 0x21), api.OK},
		{"\x00 !~\x7F-", points(0, 0x20, 0x21, 0x7E, 0x7F), api.OK},
	} {
		checkDecode(t, c.s, c.x, c.e)
	}
}

func TestCapitalLettersAreDigits(t *testing.T) {
	for i := range 26 {
		lower, upper := string(rune('a'+i)), string(rune('A'+i))
		for _, ends := range [][2]string{{"", "a"}, {"", "aa"}, {"99", "a"}, {"a-", "a"}, {"z", ""}, {"zc", ""}} {
			want, wantE := puny.Decode(ends[0] + lower + ends[1])
			checkDecode(t, ends[0]+upper+ends[1], want, wantE)
		}
	}
	checkDecode(t, "bcher-KVA", points(0x62, 0xFC, 0x63, 0x68, 0x65, 0x72), api.OK)
	checkDecode(t, "bcher-kVa", points(0x62, 0xFC, 0x63, 0x68, 0x65, 0x72), api.OK)
	checkDecode(t, "BCHER-KVA", points(0x42, 0xFC, 0x43, 0x48, 0x45, 0x52), api.OK)
	checkDecode(t, "ZCA", points(0xDF), api.OK)
	checkDecode(t, "A", points(0x80), api.OK)
	checkDecode(t, "AB-", points(0x41, 0x42), api.OK)
	for _, c := range texts {
		last := lastHyphen(c.s)
		checkDecode(t, c.s[:last+1]+strings.ToUpper(c.s[last+1:]), c.x, api.OK)
	}
}

func TestDigitsAndTheirValues(t *testing.T) {
	for value, b := range []byte(digits) {
		// behind 9 and 9, with the thresholds 1, 1 and 26: 35 and 35 times 35, and a weight of 1,225
		s := "99" + string(b) + "a"
		if value < 26 {
			s = s[:3]
		}
		checkBoth(t, points(rune(0x80+35+35*35+1225*value)), s)
	}
	for b := range 0x80 {
		c := string(rune(b))
		if digitOf(byte(b)) < 0 && b != '-' {
			checkDecode(t, c, nil, api.ErrDigit)
			checkDecode(t, "z"+c+"a", nil, api.ErrDigit)
			checkDecode(t, "a-"+c, nil, api.ErrDigit)
		}
	}
}

func TestDecodeByWords(t *testing.T) {
	for a := range 0x101 {
		for b := range 0x101 {
			var s []byte
			for _, c := range []int{a, b} {
				if c < 0x100 {
					s = append(s, byte(c))
				}
			}
			checkWords(t, string(s))
		}
	}
	eachText("abAz9Z0-!\x80", 5, func(s string) { checkWords(t, s) })
	draw := rand.New(rand.NewPCG(11, 3))
	for range 100_000 {
		b := make([]byte, draw.IntN(60))
		for i := range b {
			b[i] = digits[draw.IntN(36)]
		}
		if len(b) > 0 && draw.IntN(2) == 0 {
			b[draw.IntN(len(b))] = "-AZ!~ "[draw.IntN(6)]
		}
		checkWords(t, string(b))
	}
}

func TestEncodeByWords(t *testing.T) {
	check := func(x []rune) {
		t.Helper()
		want, wantE := writeByWords(x)
		checkEncode(t, x, want, wantE)
	}
	for _, a := range edges {
		check(points(a))
		for _, b := range edges {
			check(points(a, b))
			for _, c := range edges {
				check(points(a, b, c))
			}
		}
	}
	draw := rand.New(rand.NewPCG(11, 4))
	for range 2000 {
		check(drawn(draw, 40))
	}
	for range 100 {
		check(drawn(draw, 1000))
	}
	// more than 1,000 points: some are refused
	refused := 0
	for range 100 {
		x := slices.Concat(many(1500+draw.IntN(1500), 0x61), drawn(draw, 20), points(0x80000+draw.Int32N(0x90000)))
		draw.Shuffle(len(x), func(i, j int) { x[i], x[j] = x[j], x[i] })
		check(x)
		if _, e := writeByWords(x); e == api.ErrOver {
			refused++
		}
	}
	if refused == 0 || refused == 100 {
		t.Errorf("the draw has %d of 100 that are refused", refused)
	}
}

func TestEncodeOfManyUnlikePoints(t *testing.T) {
	const n = 4000
	up := make([]rune, n)
	for i := range up {
		up[i] = 0xE000 + rune(i)
	}
	down := slices.Clone(up)
	slices.Reverse(down)
	mixed := make([]rune, n)
	for i := range mixed {
		mixed[i] = up[i*1237%n]
	}
	for _, x := range [][]rune{up, down, mixed} {
		s, e := writeByWords(x)
		if e != api.OK {
			t.Fatalf("the words refuse %X ..: %d", x[:3], int(e))
		}
		checkBoth(t, x, s)
	}
}

func TestBounds(t *testing.T) {
	plain := strings.Repeat("a", api.MaxPoints)
	checkEncode(t, many(api.MaxPoints, 0x61), plain+"-", api.OK)
	checkEncode(t, many(api.MaxPoints, 0x80), plain, api.OK)
	checkEncode(t, many(api.MaxPoints+1, 0x61), "", api.ErrLong)
	checkDecode(t, plain, many(api.MaxPoints, 0x80), api.OK)
	checkDecode(t, plain[1:]+"-", many(api.MaxPoints-1, 0x61), api.OK)
	checkDecode(t, plain[2:]+"-a", with(many(api.MaxPoints-2, 0x61), 0, 0x80), api.OK)
	checkDecode(t, plain+"a", nil, api.ErrLong)
	// 11.3 bounds the bytes, 11.2 the points: a text that Encode tells can be too long
	checkDecode(t, plain+"-", nil, api.ErrLong)
}

// checkThere is 11.4, and what 11.6 says of the text.
func checkThere(t *testing.T, x []rune) string {
	t.Helper()
	s, e := puny.Encode(x)
	if e != api.OK {
		t.Fatalf("11.4: Encode of %d points: %d", len(x), int(e))
	}
	if y, f := puny.Decode(s); f != api.OK || !slices.Equal(y, x) {
		t.Fatalf("11.4: Decode(%q), of %d points: %d of them, %d", long(s), len(x), len(y), int(f))
	}
	var basic []byte
	for _, c := range x {
		if c < 0x80 {
			basic = append(basic, byte(c))
		}
	}
	begins := string(basic)
	if len(basic) > 0 {
		begins += "-"
	}
	rest, ok := strings.CutPrefix(s, begins)
	switch {
	case !ok:
		t.Fatalf("11.6: %q does not begin with %q", long(s), long(begins))
	case strings.Trim(rest, digits) != "":
		t.Fatalf("11.6: %q has other bytes than digits behind %q", long(s), long(begins))
	case len(basic) == len(x) && rest != "":
		t.Fatalf("11.6: %q of points below 80 alone", long(s))
	case len(basic) < len(x) && len(rest) < len(x)-len(basic):
		t.Fatalf("11.6: %q has too few numbers", long(s))
	}
	return s
}

func TestDecodeOfEncode(t *testing.T) {
	for c := rune(0); c <= 0x10FFFF; c++ {
		if c >= 0xD800 && c <= 0xDFFF {
			continue
		}
		checkThere(t, points(c))
	}
	for _, a := range edges {
		for _, b := range edges {
			for _, c := range edges {
				checkThere(t, points(a, b, c))
			}
		}
	}
	draw := rand.New(rand.NewPCG(11, 5))
	for range 20_000 {
		checkThere(t, drawn(draw, 40))
	}
	for range 500 {
		checkThere(t, drawn(draw, 1000))
	}
	// the greatest numbers of 1,000 points
	for _, c := range edges {
		checkThere(t, many(1000, c))
		for _, at := range []int{0, 1, 500, 998, 999} {
			checkThere(t, with(many(999, c), at, 0x10FFFF))
			checkThere(t, with(with(many(998, c), min(at, 998), 0x80), at, 0x10FFFF))
		}
	}
}

// checkBack is 11.5: whether the text is one that it speaks of.
func checkBack(t *testing.T, s string) bool {
	t.Helper()
	behind := s[lastHyphen(s)+1:]
	x, e := puny.Decode(s)
	if e != api.OK || strings.ContainsFunc(behind, func(c rune) bool { return c >= 'A' && c <= 'Z' }) {
		return false
	}
	if u, f := puny.Encode(x); u != s || f != api.OK {
		t.Fatalf("11.5: Encode of Decode(%q): %q, %d", long(s), long(u), int(f))
	}
	return true
}

func TestEncodeOfDecode(t *testing.T) {
	taken := 0
	count := func(s string) {
		if checkBack(t, s) {
			taken++
		}
	}
	eachText(digits+"-", 4, count)
	draw := rand.New(rand.NewPCG(11, 6))
	for range 200_000 {
		b := make([]byte, draw.IntN(20))
		for i := range b {
			b[i] = byte(draw.IntN(0x80))
			if draw.IntN(8) > 0 {
				b[i] = digits[draw.IntN(36)]
			}
		}
		count(string(b))
		// most long texts are refused: so numbers that are small at their time
		s := string(b) + "-"
		for range draw.IntN(50) {
			s += string("aaaabcd"[draw.IntN(7)])
		}
		count(s)
	}
	for range 200 {
		count(strings.Repeat("a", draw.IntN(1000)))
		count(strings.Repeat("a", draw.IntN(500)) + "-" + strings.Repeat("a", draw.IntN(500)))
	}
	if taken < 300_000 {
		t.Errorf("only %d texts are taken", taken)
	}
}

func TestUnlikeTextsAreUnlikeSequences(t *testing.T) {
	of := map[string]string{}
	eachText(digits+"-", 3, func(s string) {
		x, e := puny.Decode(s)
		if e != api.OK {
			return
		}
		if other, met := of[string(x)]; met {
			t.Fatalf("11.5: %q and %q are both read as %X", s, other, x)
		}
		of[string(x)] = s
	})
}

func TestNothingHandedInChanges(t *testing.T) {
	room := slices.Concat(edges, unsound, edges)
	before := slices.Clone(room)
	for n := range len(room) + 1 {
		puny.Encode(room[:n])
		if !slices.Equal(room, before) {
			t.Fatalf("Encode changes what was handed in: %X", room)
		}
	}
	room = slices.Concat(points(0x10FFFF, 0xFC, 0x61, 0xDF, 0x62), many(20, 0x63))
	before = slices.Clone(room)
	s, _ := puny.Encode(room[:5])
	if !slices.Equal(room, before) {
		t.Errorf("Encode changes what was handed in, or its spare room: %X", room)
	}
	text := strings.Clone(s)
	for i := range room {
		room[i] = 0x7A
	}
	if s != text {
		t.Errorf("writing over what was handed in changes what Encode tells: %q", s)
	}
}

func TestDecodeTellsNewMemory(t *testing.T) {
	for _, c := range texts {
		x, _ := puny.Decode(c.s)
		y, _ := puny.Decode(c.s)
		x = x[:cap(x)]
		for i := range x {
			x[i] = 0x7A
		}
		if !slices.Equal(y, c.x) {
			t.Errorf("writing over one answer of Decode(%q) changes the other: %X", c.s, y)
		}
		checkDecode(t, c.s, c.x, api.OK)
	}
}

func TestBesideAnErrorNothingIsTold(t *testing.T) {
	for _, s := range []string{"ab-!", "ab-z", "ab-99999999a", "ab-9999999a", "ab-\xFF", "zca9", "zca!", "zca999999a", strings.Repeat("a", api.MaxPoints+1)} {
		if x, e := puny.Decode(s); len(x) > 0 || e == api.OK {
			t.Errorf("Decode(%q): %X, %d", long(s), x[:min(len(x), 9)], int(e))
		}
	}
	for _, x := range [][]rune{points(0x61, 0xD800), with(many(3000, 0x61), 0, 0x10FFFF), many(api.MaxPoints+1, 0x61)} {
		if s, e := puny.Encode(x); s != "" || e == api.OK {
			t.Errorf("Encode of %d points: %q, %d", len(x), long(s), int(e))
		}
	}
}
