package scan_test

import (
	"fmt"
	"math"
	"math/rand/v2"
	"slices"
	"strings"
	"testing"

	"endonym/scan"
)

// edgeBytes are the bytes on both sides of each class that the chapter tells apart, the blanks, and bytes that are no text.
var edgeBytes = []byte{0, 8, '\t', '\n', '\v', '\r', 0x0E, 0x1F, ' ', '!', '"', '#', '$', '+', '-', '.', '/', '0', '1', '9', ':', '@', 'A', 'F', 'G', 'Z', '[', '`', 'a', 'f', 'z', '{', 0x7F, 0x80, 0x85, 0xA0, 0xC2, 0xC3, 0xE2, 0xFF}

// allTexts calls f with each text of at most n of the bytes.
func allTexts(bytes []byte, n int, f func(string)) {
	var grow func(s []byte)
	grow = func(s []byte) {
		f(string(s))
		if len(s) == n {
			return
		}
		for _, b := range bytes {
			grow(append(slices.Clone(s), b))
		}
	}
	grow(nil)
}

// drawn is a text of at most n bytes of those.
func drawn(r *rand.Rand, bytes string, n int) string {
	s := make([]byte, r.IntN(n+1))
	for i := range s {
		s[i] = bytes[r.IntN(len(bytes))]
	}
	return string(s)
}

// modelLines is 5.1 word by word.
func modelLines(s string) []string {
	l := []string{""}
	for i := 0; i < len(s); i++ {
		if s[i] == 0x0A {
			l = append(l, "")
		} else {
			l[len(l)-1] += s[i : i+1]
		}
	}
	if l[len(l)-1] == "" {
		l = l[:len(l)-1]
	}
	return l
}

// modelWords is 5.2 word by word: of all rows of a line's bytes those that are words and cannot be made longer.
func modelWords(line string) ([]scan.Word, int) {
	end := 0
	for end < len(line) && line[end] != '#' {
		end++
	}
	in := func(i int) bool {
		return i >= 0 && i < end && line[i] != 0x20 && line[i] != 0x09 && line[i] != 0x0D
	}
	var l []scan.Word
	for from := range end {
		if !in(from) || in(from-1) {
			continue
		}
		to := from
		for in(to) {
			to++
		}
		l = append(l, scan.Word{Text: line[from:to], At: from})
	}
	return l, end
}

func checkLines(t *testing.T, s string) {
	t.Helper()
	if l, want := scan.Lines(s), modelLines(s); !slices.Equal(l, want) {
		t.Fatalf("5.1: Lines(%q): %q, want %q", s, l, want)
	}
}

func checkWords(t *testing.T, line string) {
	t.Helper()
	want, wantEnd := modelWords(line)
	if l, end := scan.Words(line); !slices.Equal(l, want) || end != wantEnd {
		t.Fatalf("5.2: Words(%q): %v, %d, want %v, %d", line, l, end, want, wantEnd)
	}
}

func TestLinesExamples(t *testing.T) {
	for _, c := range []struct {
		s    string
		want []string
	}{
		{"", nil},
		{"\n", []string{""}},
		{"\n\n\n", []string{"", "", ""}},
		{"a", []string{"a"}},
		{"a\n", []string{"a"}},
		{"a\nb", []string{"a", "b"}},
		{"a\nb\n", []string{"a", "b"}},
		{"a\n\n", []string{"a", ""}},
		{"\na", []string{"", "a"}},
		{"a\r\nb\r", []string{"a\r", "b\r"}},
		{"\xFF\n\xC3\n\x85\v\f\u2028", []string{"\xFF", "\xC3", "\x85\v\f\u2028"}},
		{" # a\n#", []string{" # a", "#"}},
	} {
		if l := scan.Lines(c.s); !slices.Equal(l, c.want) {
			t.Errorf("5.1: Lines(%q): %q, want %q", c.s, l, c.want)
		}
	}
}

func TestLinesOfAll(t *testing.T) {
	allTexts(edgeBytes, 2, func(s string) { checkLines(t, s) })
	allTexts([]byte("\na\r"), 7, func(s string) { checkLines(t, s) })
	r := rand.New(rand.NewPCG(5, 1))
	for range 2000 {
		s := drawn(r, "\n\nab #\r\xFF\xC3\x9F", 60)
		checkLines(t, s)
		if strings.HasSuffix(s, "\n") || s == "" {
			continue
		}
		if !slices.Equal(scan.Lines(s), scan.Lines(s+"\n")) || strings.Join(scan.Lines(s), "\n") != s {
			t.Fatalf("5.1: Lines(%q) is not alike with a newline behind, or is not what stands between newlines", s)
		}
	}
}

func TestWordsExamples(t *testing.T) {
	word := func(at int, s string) scan.Word { return scan.Word{Text: s, At: at} }
	for _, c := range []struct {
		line string
		want []scan.Word
		end  int
	}{
		{" a  b#c", []scan.Word{word(1, "a"), word(4, "b")}, 5},
		{"", nil, 0},
		{" ", nil, 1},
		{"\t \r\r", nil, 4},
		{"a\tb\rc d", []scan.Word{word(0, "a"), word(2, "b"), word(4, "c"), word(6, "d")}, 7},
		{"ab  \t\r cd \t", []scan.Word{word(0, "ab"), word(7, "cd")}, 11},
		{"#", nil, 0},
		{"# a", nil, 0},
		{"##", nil, 0},
		{" #", nil, 1},
		{"a#b", []scan.Word{word(0, "a")}, 1},
		{"a #b", []scan.Word{word(0, "a")}, 2},
		{"a # b # c", []scan.Word{word(0, "a")}, 2},
		{"\xFF\x80 \xC3\x9F\xC3#\xFF", []scan.Word{word(0, "\xFF\x80"), word(3, "\xC3\x9F\xC3")}, 6},
		{"\xC3 \xE2\x80#", []scan.Word{word(0, "\xC3"), word(2, "\xE2\x80")}, 4},
		{"a\nb c", []scan.Word{word(0, "a\nb"), word(4, "c")}, 5},
		{"a\u00A0\u2003\u0085\v\f\x00b", []scan.Word{word(0, "a\u00A0\u2003\u0085\v\f\x00b")}, 12},
	} {
		if l, end := scan.Words(c.line); !slices.Equal(l, c.want) || end != c.end {
			t.Errorf("5.2: Words(%q): %v, %d, want %v, %d", c.line, l, end, c.want, c.end)
		}
	}
}

func TestWordsOfAll(t *testing.T) {
	for b := range 256 {
		checkWords(t, string([]byte{'a', byte(b), 'c', ' ', byte(b)}))
	}
	allTexts(edgeBytes, 3, func(s string) { checkWords(t, s) })
	allTexts([]byte(" \t#a\xC3\x9F"), 6, func(s string) { checkWords(t, s) })
	r := rand.New(rand.NewPCG(5, 2))
	for range 2000 {
		checkWords(t, drawn(r, "   \t\r#abcdef.-\xFF\xC3\x9F\n", 60))
	}
}

// TestBlanksAndRemarks lays the same words out with all manner of blanks and remarks.
func TestBlanksAndRemarks(t *testing.T) {
	r := rand.New(rand.NewPCG(5, 6))
	for range 3000 {
		var want []scan.Word
		line := drawn(r, " \t\r", 3)
		for range r.IntN(5) {
			w := drawn(r, "aZ09.-+\xFF\xC3\x9F\n\v", 4) + "x"
			want = append(want, scan.Word{Text: w, At: len(line)})
			line += w + " " + drawn(r, " \t\r", 2)
		}
		if r.IntN(2) == 0 {
			line = strings.TrimRight(line, " \t\r")
		}
		end := len(line)
		if r.IntN(2) == 0 {
			line += "#" + drawn(r, "# \tab\xFF", 5)
		}
		if l, to := scan.Words(line); !slices.Equal(l, want) || to != end {
			t.Fatalf("5.6: Words(%q): %v, %d, want %v, %d", line, l, to, want, end)
		}
	}
}

func TestNewMemory(t *testing.T) {
	const text, line = "a\nb\n\n", "ab cd # e"
	lines := scan.Lines(text)
	words, _ := scan.Words(line)
	clear(lines[:cap(lines)])
	clear(words[:cap(words)])
	if l := scan.Lines(text); !slices.Equal(l, []string{"a", "b", ""}) {
		t.Errorf("5.1: Lines(%q) behind an answer that was written over: %q", text, l)
	}
	if l, end := scan.Words(line); !slices.Equal(l, []scan.Word{{Text: "ab", At: 0}, {Text: "cd", At: 3}}) || end != 6 {
		t.Errorf("5.2: Words(%q) behind an answer that was written over: %v, %d", line, l, end)
	}
}

func TestCodeExamples(t *testing.T) {
	for _, c := range []struct {
		s    string
		want rune
	}{
		{"41", 0x41}, {"0", 0}, {"1", 1}, {"9", 9}, {"A", 10}, {"F", 15}, {"10", 16}, {"FFFFF", 0xFFFFF}, {"100000", 0x100000}, {"10FFFF", 0x10FFFF}, {"D800", 0xD800}, {"DFFF", 0xDFFF}, {"ABCDE", 0xABCDE}, {"9876", 0x9876},
	} {
		if got, ok := scan.Code(c.s); got != c.want || !ok {
			t.Errorf("5.3: Code(%q): %X, %v", c.s, got, ok)
		}
	}
	for _, s := range []string{"041", "4a", "110000", "", "00", "000000", "01", "1000000", "10FFFFF", "FFFFFF", "a", "g", "G", "@", "/", ":", "`", "-1", "+1", "-", " 41", "41 ", "4_1", "0x41", "U+41", "\xFF", "1\xFF", "\u0661", "\uFF11", "4\u0665", "41\x00", "FFFFFFFFFFFFFFFFF", "10000000000000041"} {
		if got, ok := scan.Code(s); got != 0 || ok {
			t.Errorf("5.3: Code(%q): %X, %v, want 0, false", s, got, ok)
		}
	}
}

// codeForms is every text that is a code point, by the words of 5.3, without reading one.
func codeForms() map[string]rune {
	m := map[string]rune{}
	for c := rune(0); c <= 0x10FFFF; c++ {
		m[fmt.Sprintf("%X", c)] = c
	}
	return m
}

func TestCodeOfAll(t *testing.T) {
	forms := codeForms()
	check := func(s string) {
		want, wantOK := forms[s]
		if c, ok := scan.Code(s); c != want || ok != wantOK {
			t.Fatalf("5.3: Code(%q): %X, %v, want %X, %v", s, c, ok, want, wantOK)
		}
	}
	for b := range 256 {
		check(string([]byte{byte(b)}))
		check(string([]byte{'4', byte(b)}))
		check(string([]byte{byte(b), '4'}))
	}
	allTexts(edgeBytes, 3, check)
	allTexts([]byte("01AFG"), 7, check)
	r := rand.New(rand.NewPCG(5, 3))
	for range 20000 {
		check(drawn(r, "0123456789ABCDEF", 8))
	}
}

func TestSpanExamples(t *testing.T) {
	for _, c := range []struct {
		s      string
		lo, hi rune
	}{
		{"41..5A", 0x41, 0x5A}, {"41", 0x41, 0x41}, {"0", 0, 0}, {"10FFFF", 0x10FFFF, 0x10FFFF}, {"0..1", 0, 1}, {"0..10FFFF", 0, 0x10FFFF}, {"10FFFE..10FFFF", 0x10FFFE, 0x10FFFF}, {"9..A", 9, 10}, {"FF..100", 0xFF, 0x100},
	} {
		if lo, hi, ok := scan.Span(c.s); lo != c.lo || hi != c.hi || !ok {
			t.Errorf("5.3: Span(%q): %X, %X, %v", c.s, lo, hi, ok)
		}
	}
	for _, s := range []string{"", "41..41", "0..0", "5A..41", "10..9", "41.5A", "41...5A", "41....5A", "..", ".", "...", "41..", "41.", "..41", ".41", "1..2..3", "41..5A..", "041..5A", "41..05A", "41..5a", "4a..5A", "41..110000", "110000", "110000..110001", "-1..5", "41-5A", "41 ..5A", "41.. 5A", "41,,5A", "\xFF", "41\u20255A"} {
		if lo, hi, ok := scan.Span(s); lo != 0 || hi != 0 || ok {
			t.Errorf("5.3: Span(%q): %X, %X, %v, want 0, 0, false", s, lo, hi, ok)
		}
	}
}

// modelSpan is 5.3 word by word: any way of cutting the text in two Codes with full stops between.
func modelSpan(s string) (rune, rune, bool) {
	if c, ok := scan.Code(s); ok {
		return c, c, true
	}
	for i := 0; i+2 <= len(s); i++ {
		lo, first := scan.Code(s[:i])
		hi, second := scan.Code(s[i+2:])
		if s[i:i+2] == ".." && first && second && lo < hi {
			return lo, hi, true
		}
	}
	return 0, 0, false
}

func TestSpanOfAll(t *testing.T) {
	check := func(s string) {
		lo, hi, ok := scan.Span(s)
		wantLo, wantHi, wantOK := modelSpan(s)
		if lo != wantLo || hi != wantHi || ok != wantOK {
			t.Fatalf("5.3: Span(%q): %X, %X, %v, want %X, %X, %v", s, lo, hi, ok, wantLo, wantHi, wantOK)
		}
		if ok && scan.PrintSpan(lo, hi) != s {
			t.Fatalf("5.6: Span(%q) tells %X, %X, whose PrintSpan is %q", s, lo, hi, scan.PrintSpan(lo, hi))
		}
	}
	allTexts([]byte("01A.x"), 7, check)
	r := rand.New(rand.NewPCG(5, 4))
	for range 20000 {
		check(drawn(r, "0123456789ABCDEF", 7) + drawn(r, "..", 3) + drawn(r, "0123456789ABCDEF", 7))
		lo, hi := r.Int32N(0x110000), r.Int32N(0x110000)
		s := scan.PrintSpan(lo, hi)
		if gotLo, gotHi, ok := scan.Span(s); lo <= hi && (gotLo != lo || gotHi != hi || !ok) || lo > hi && s != "" {
			t.Fatalf("5.6: PrintSpan(%X, %X): %q, of which Span tells %X, %X, %v", lo, hi, s, gotLo, gotHi, ok)
		}
	}
}

func TestWholeExamples(t *testing.T) {
	for _, c := range []struct {
		s    string
		want int
	}{
		{"0", 0}, {"1", 1}, {"9", 9}, {"-1", -1}, {"-7", -7}, {"10", 10}, {"123", 123}, {"4321", 4321}, {"54321", 54321}, {"-654321", -654321}, {"7654321", 7654321}, {"-87654321", -87654321}, {"100000000", 100000000}, {"999999999", 999999999}, {"-999999999", -999999999},
	} {
		if n, ok := scan.Whole(c.s); n != c.want || !ok {
			t.Errorf("5.4: Whole(%q): %d, %v", c.s, n, ok)
		}
	}
	for _, s := range []string{"-0", "1234567890", "-1234567890", "", "-", "--", "--1", "+1", "+0", "+", "-+1", "+-1", "01", "00", "-01", "0123456789", "1-", "1a", "A", "-A", "F", "1.", "1e1", "1_0", " 1", "1 ", "- 1", "\xFF", "\u0661", "\u22121", "99999999999999999999", "18446744073709551617"} {
		if n, ok := scan.Whole(s); n != 0 || ok {
			t.Errorf("5.4: Whole(%q): %d, %v, want 0, false", s, n, ok)
		}
	}
}

// isWhole is 5.4 word by word.
func isWhole(s string) bool {
	if s == "0" {
		return true
	}
	if s != "" && s[0] == '-' {
		s = s[1:]
	}
	for i := 0; i < len(s); i++ {
		if s[i] < '0' || s[i] > '9' {
			return false
		}
	}
	return len(s) >= 1 && len(s) <= 9 && s[0] != '0'
}

func TestWholeOfAll(t *testing.T) {
	check := func(s string) {
		n, ok := scan.Whole(s)
		if ok != isWhole(s) || !ok && n != 0 || ok && fmt.Sprint(n) != s {
			t.Fatalf("5.4: Whole(%q): %d, %v", s, n, ok)
		}
		if ok && scan.PrintWhole(n) != s {
			t.Fatalf("5.6: Whole(%q) tells %d, whose PrintWhole is %q", s, n, scan.PrintWhole(n))
		}
	}
	for b := range 256 {
		check(string([]byte{byte(b)}))
		check(string([]byte{'1', byte(b)}))
		check(string([]byte{byte(b), '1'}))
		check(string([]byte{'-', byte(b)}))
	}
	allTexts(edgeBytes, 3, check)
	allTexts([]byte("-0+19"), 6, check)
	r := rand.New(rand.NewPCG(5, 5))
	for range 20000 {
		check(drawn(r, "-0123456789", 12))
	}
}

func TestName(t *testing.T) {
	for _, s := range []string{"Latn", "Zyyy", "Aaaa", "Zzzz", "Azaz"} {
		if !scan.Name(s) {
			t.Errorf("5.4: Name(%q): false", s)
		}
	}
	for _, s := range []string{"", "L", "Lat", "Latin", "LatnLatn", "latn", "LAtn", "LaTn", "LatN", "LATN", "1atn", "L1tn", "La1n", "Lat1", "Lat ", " Lat", "La\u00E9", "L\u00E9t", "\u00C9at", "L\u00E9tn", "\u00C9atn", "Lat\u00E9", "\xFFatn", "Lat\xFF", "\U0001D400", "\uFF2Ca"} {
		if scan.Name(s) {
			t.Errorf("5.4: Name(%q): true", s)
		}
	}
	for place := range 4 {
		for b := range 256 {
			s := []byte("Latn")
			s[place] = byte(b)
			want := b >= 'a' && b <= 'z'
			if place == 0 {
				want = b >= 'A' && b <= 'Z'
			}
			if scan.Name(string(s)) != want {
				t.Errorf("5.4: Name(%q): %v", s, !want)
			}
		}
	}
}

func TestPrintCode(t *testing.T) {
	for c := rune(0); c <= 0x10FFFF; c++ {
		s := scan.PrintCode(c)
		if want := fmt.Sprintf("%X", c); s != want {
			t.Fatalf("5.5: PrintCode(%X): %q", c, s)
		}
		if got, ok := scan.Code(s); got != c || !ok {
			t.Fatalf("5.6: Code(PrintCode(%X)): %X, %v", c, got, ok)
		}
		if lo, hi, ok := scan.Span(s); lo != c || hi != c || !ok || scan.PrintSpan(c, c) != s {
			t.Fatalf("5.6: Span(PrintCode(%X)): %X, %X, %v", c, lo, hi, ok)
		}
	}
	for _, c := range []rune{-1, -0x41, math.MinInt32, 0x110000, 0x110041, math.MaxInt32} {
		if s := scan.PrintCode(c); s != "" {
			t.Errorf("5.5: PrintCode(%X): %q, want the empty text", c, s)
		}
	}
}

func TestPrintSpan(t *testing.T) {
	points := []rune{math.MinInt32, -2, -1, 0, 1, 0x40, 0x41, 0x5A, 0xFFFF, 0x10FFFE, 0x10FFFF, 0x110000, 0x110001, math.MaxInt32}
	for _, lo := range points {
		for _, hi := range points {
			want := ""
			switch {
			case lo == hi:
				want = scan.PrintCode(lo)
			case 0 <= lo && lo < hi && hi <= 0x10FFFF:
				want = fmt.Sprintf("%X..%X", lo, hi)
			}
			if s := scan.PrintSpan(lo, hi); s != want {
				t.Errorf("5.5: PrintSpan(%X, %X): %q, want %q", lo, hi, s, want)
			}
		}
	}
	if one, two, fall := scan.PrintSpan(65, 65), scan.PrintSpan(65, 90), scan.PrintSpan(90, 65); one != "41" || two != "41..5A" || fall != "" {
		t.Errorf("5.5: PrintSpan: %q, %q, %q", one, two, fall)
	}
}

func TestPrintWhole(t *testing.T) {
	for n, want := range map[int]string{0: "0", 7: "7", -7: "-7", 10: "10", 1234567890: "1234567890", math.MaxInt: "9223372036854775807", math.MinInt: "-9223372036854775808"} {
		if s := scan.PrintWhole(n); s != want {
			t.Errorf("5.5: PrintWhole(%d): %q", n, s)
		}
	}
	check := func(n int) {
		s := scan.PrintWhole(n)
		short := n > -1_000_000_000 && n < 1_000_000_000
		if got, ok := scan.Whole(s); ok != short || ok && got != n || s != fmt.Sprint(n) {
			t.Fatalf("5.6: PrintWhole(%d): %q, of which Whole tells %d, %v", n, s, got, ok)
		}
	}
	for p := 1; p <= 1_000_000_000_000; p *= 10 {
		for d := -2; d <= 2; d++ {
			check(p + d)
			check(-p + d)
		}
	}
	r := rand.New(rand.NewPCG(5, 7))
	for range 20000 {
		check(r.IntN(2_000_000_001) - 1_000_000_000)
		check(int(r.Uint64()))
	}
}
