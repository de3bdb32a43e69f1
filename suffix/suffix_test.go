package suffix_test

import (
	"slices"
	"strconv"
	"strings"
	"testing"
	"unsafe"

	"endonym/api"
	"endonym/suffix"
)

// first is the place of a text's first byte.
var first = api.Place{At: 0, Line: 1, Column: 1}

func TestExamples(t *testing.T) {
	e := strict(t)
	r := read(t, e, "com\n*.ck\n!www.ck\nB\u00FCcher.com\n")
	if l := r.All(); !slices.Equal(l, []string{"!www.ck", "*.ck", "com", "xn--bcher-kva.com"}) {
		t.Errorf("21.2: All: %q", l)
	}
	checkName(t, r, "a.com", 1, "a.com")
	checkName(t, r, "x.a.com", 1, "a.com")
	checkName(t, r, "a.b.ck", 2, "a.b.ck")
	checkName(t, r, "b.ck", 2, "")
	checkName(t, r, "x.www.ck", 1, "www.ck")
	checkName(t, r, "a.b.org", 1, "b.org")
	checkName(t, r, "a.xn--bcher-kva.com", 2, "a.xn--bcher-kva.com")
	checkName(t, r, "COM", 1, "")
	checkRefused(t, e, "com org", api.ErrWord, api.Place{At: 4, Line: 1, Column: 5})
	checkRefused(t, e, "!ck", api.ErrRule, first)
	checkRefused(t, e, "a..b", api.ErrRule, first)
	checkRefused(t, e, "com\nCOM", api.ErrTwice, api.Place{At: 4, Line: 2, Column: 1})
}

// 21.1

func TestNoEngine(t *testing.T) {
	for _, s := range []string{"", "com", "com org", "!", many(401, "a"), many(262144, "\n"), many(262145, "\n"), many(262145, "a")} {
		checkRefused(t, nil, s, api.ErrArg, api.Place{})
	}
}

// sized is so many bytes of lines without rules, each of 100 bytes or less, its newline too.
func sized(n int) string {
	line := "#" + many(98, "x") + "\n"
	return many(n/100, line) + many(n%100, "\n")
}

func TestLengths(t *testing.T) {
	e := free(t)
	for _, s := range []string{sized(262144), sized(262140) + "*.ck", "com\n" + sized(262140), many(262144, "\n"), sized(262142) + "a\n"} {
		r := read(t, e, s)
		if len(s) != 262144 || r.Len() != strings.Count(s, "com")+strings.Count(s, "*.ck")+strings.Count(s, "a\n") {
			t.Errorf("21.1: %d bytes: %q", len(s), r.All())
		}
	}
	for _, s := range []string{sized(262145), sized(262141) + "*.ck", "com\n" + sized(262141), "a b\n" + sized(262141), "!\n" + sized(262143), many(262145, "\n"), many(262145, " "), many(262145, "a"), many(300000, "a\n")} {
		checkRefused(t, e, s, api.ErrLong, first)
	}
	// as long as may be, but one line
	checkRefused(t, e, many(262144, "a"), api.ErrLong, api.Place{At: 400, Line: 1, Column: 401})
	checkRefused(t, e, sized(262143)+"!", api.ErrRule, api.Place{At: 262143, Line: 2621 + 43 + 1, Column: 1})
}

func TestLinesWithoutWords(t *testing.T) {
	for _, e := range []int{0, api.Strict, api.Flags} {
		e := houseWorld(t).engines[e]
		for _, s := range []string{"", "\n", "\n\n\n", " ", "\t", "\r", " \t\r", "\r\n\r\n", "#", "# com", "#com\n#org\n", " # a b c", "#!\n\t#*.*\n", "\n \n\t\n\r\n#\n", "# " + many(398, "x"), many(400, " "), many(400, "\n"), "#\xFF\x00"} {
			checkRules(t, e, s)
		}
		checkRules(t, e, "com", "com")
		checkRules(t, e, "com\n", "com")
		checkRules(t, e, "\n\ncom\n\n", "com")
		checkRules(t, e, "\r\n \t com\t \r\n", "com")
		checkRules(t, e, "com\r\norg\r\n", "com", "org")
		checkRules(t, e, "com#org", "com")
		checkRules(t, e, "com # org net", "com")
		checkRules(t, e, "com\t# \xFF!!\n#com\n # com\norg", "com", "org")
	}
}

func TestLineLengths(t *testing.T) {
	e := free(t)
	// lines of 400 bytes
	for _, c := range []struct{ line, rule string }{
		{many(400, "a"), many(400, "a")},
		{many(397, " ") + "com", "com"},
		{"com" + many(397, " "), "com"},
		{"com #" + many(395, "x"), "com"},
		{"com" + many(397, "\r"), "com"},
		{"*." + many(398, "a"), "*." + many(398, "a")},
		{"!b." + many(397, "a"), "!b." + many(397, "a")},
		{many(200, "a.")[:399] + "b", many(200, "a.")[:399] + "b"},
	} {
		if len(c.line) != 400 {
			t.Fatalf("the test's own line has %d bytes", len(c.line))
		}
		checkRules(t, e, c.line, c.rule)
		checkRules(t, e, c.line+"\n", c.rule)
		checkRules(t, e, "\n"+c.line+"\n0", slices.Sorted(slices.Values([]string{"0", c.rule}))...)
		// and of 401, whether what is more is a blank, a part of a remark or of a word; nothing else is told of them
		for _, line := range []string{c.line + " ", c.line + "x", c.line + "#", c.line + "\r", " " + c.line, "#" + c.line} {
			checkRefused(t, e, line, api.ErrLong, api.Place{At: 400, Line: 1, Column: 401})
			checkRefused(t, e, line+"\n", api.ErrLong, api.Place{At: 400, Line: 1, Column: 401})
			checkRefused(t, e, "b\n\n"+line+"\n! x", api.ErrLong, api.Place{At: 403, Line: 3, Column: 401})
		}
	}
	for _, words := range []string{"", "#", "!", "a..b", "a b", "com", "com com", "! x", "*.*", "\xFF"} {
		line := words + many(401-len(words), " ")
		checkRefused(t, e, "com\n"+line, api.ErrLong, api.Place{At: 404, Line: 2, Column: 401})
		checkRefused(t, e, "com\n"+line+many(1000, " "), api.ErrLong, api.Place{At: 404, Line: 2, Column: 401})
	}
	checkRefused(t, e, "com\n!"+many(399, " "), api.ErrRule, api.Place{At: 4, Line: 2, Column: 1})
	checkRefused(t, e, "com\ncom"+many(397, " "), api.ErrTwice, api.Place{At: 4, Line: 2, Column: 1})
	checkRefused(t, e, "com\na"+many(398, " ")+"b", api.ErrWord, api.Place{At: 403, Line: 2, Column: 400})
	// a line of 401 bytes of letters that are fewer as they are kept
	checkRefused(t, e, many(400, "\u00AD")[:400]+"a", api.ErrLong, api.Place{At: 400, Line: 1, Column: 401})
	checkRules(t, e, many(400, "\u00AD")[:398]+"a", "a")
}

// rules are so many lines, each a rule of its own.
func rules(n int) string {
	var b strings.Builder
	for i := range n {
		b.WriteString("n" + strconv.Itoa(i) + "\n")
	}
	return b.String()
}

func TestCounts(t *testing.T) {
	e := free(t)
	for _, n := range []int{1, 2, 4095, 4096} {
		if r := read(t, e, rules(n)); r.Len() != n || len(r.All()) != n {
			t.Errorf("21.2: %d rules: %d, %d", n, r.Len(), len(r.All()))
		}
	}
	full := rules(4096)
	for _, s := range []string{"\n", "#", " \t\r\n# x\n\n", many(400, " ")} {
		if r := read(t, e, full+s); r.Len() != 4096 {
			t.Errorf("21.1: what says nothing behind 4096 rules: %d", r.Len())
		}
	}
	at := api.Place{At: len(full), Line: 4097, Column: 1}
	for _, s := range []string{"com", "!", "a b", "n0", "n0 n1", "! x", "*", "!n0.n1", "com\n!\n", "com\n" + many(401, " ")} {
		checkRefused(t, e, full+s, api.ErrMany, at)
		checkRefused(t, e, full+"\n#\n \t"+s, api.ErrMany, api.Place{At: len(full) + 5, Line: 4099, Column: 3})
	}
	checkRefused(t, e, full+"com"+many(398, " "), api.ErrLong, api.Place{At: len(full) + 400, Line: 4097, Column: 401})
	checkRefused(t, e, full+many(401, " "), api.ErrLong, api.Place{At: len(full) + 400, Line: 4097, Column: 401})
	// one less: the last one may still come, and its own fault is told
	last := rules(4095)
	at = api.Place{At: len(last), Line: 4096, Column: 1}
	checkRefused(t, e, last+"!", api.ErrRule, at)
	checkRefused(t, e, last+"n0", api.ErrTwice, at)
	checkRefused(t, e, last+"com org", api.ErrWord, api.Place{At: len(last) + 4, Line: 4096, Column: 5})
	// a fault far ahead is told, not that there are too many
	checkRefused(t, e, "!\n"+rules(5000), api.ErrRule, first)
	checkRefused(t, e, "n7\n"+rules(5000), api.ErrTwice, api.Place{At: 3 + 7*3, Line: 9, Column: 1})
	// exceptions and rules with `*` count alike
	var b strings.Builder
	for i := range 1366 {
		s := strconv.Itoa(i)
		b.WriteString("n" + s + "\n*.n" + s + "\n!m.n" + s + "\n")
	}
	s := b.String()
	lines := strings.SplitAfter(s, "\n")
	taken := strings.Join(lines[:4096], "")
	if r := read(t, e, taken); r.Len() != 4096 {
		t.Errorf("21.2: Len: %d", r.Len())
	}
	checkRefused(t, e, s, api.ErrMany, api.Place{At: len(taken), Line: 4097, Column: 1})
}

// none are words that are no rules, whatever the house's engine asks.
var none = []string{
	// no label, empty labels
	"!", "*.", ".", "..", "!.", "!..", "*..", ".a", "a.", "a..b", "..a", "a..", "a.b.", ".a.b", "a..b.c", "*.a.", "*..a", "*.a..b", ".*", ".*.a", "!.a", "!a.", "!a..b", "!.a.b", "!a.b.",
	// `*` elsewhere than in front
	"a.*", "a.*.b", "*.*", "*.*.a", "*.a.*", "*.a.*.b", "**", "**.a", "*a", "a*", "*a.b", "a*.b", "a.b*", "a*b", "*.a*", "*.*a", "***",
	// and in an exception
	"!*", "!*.", "!*.ck", "!*.a.b", "!a.*", "!a.*.b", "!**.a", "!a*.b", "!*a.b",
	// `!` elsewhere than ahead
	"!!", "!!a", "!!a.ck", "*!", "*!a.b", "*!.a", "*.!", "*.!a", "*.!a.b", "a!", "a.!b", "!a.!b", "!a!.b", "a.b!", "!!!a.b", "*.a!",
	// exceptions of one label
	"!a", "!ck", "!xn--bcher-kva", "!b\u00FCcher", "!\u00ADa",
	// not taken by the engine
	"\xFF", "a.\xFF", "\xC3", "\xED\xA0\x80", "a\u0250", "*.\u0250", "!a.\u0250", "xn--z", "xn--", "xn--abc-", "a.xn--z", "*.xn--", "!xn--z.a", "\u0300a", "a.\u0301", "\u0080", "a\x00\u0080",
	// taken, perhaps, but not LDH
	"a_b", "_", "a.b_", "*._", "!a._b", "a/b", "a:b", "a,b", "a@b", "[a]", "a=b", "\"a\"", "'a'", "~", "a+b", "(a)", "`a`", "\\a", "?",
	// what only comes to the signs of rules
	"\u00AD*.a", "*\u00AD.a", "*\u3002a", "\uFF0A", "\u00AD!a.b", "\u00AD*", "*\u00AD",
	// nothing, once it is mapped
	"\u00AD", "a.\u00AD", "*.\u00AD", "!\u00AD", "!a.\u00AD", "!\u00AD.a", "\u00AD.a", "a\u3002", "\u3002a", "\u33C7", "*.\u33C7",
}

func TestNoRules(t *testing.T) {
	w := houseWorld(t)
	for _, word := range none {
		for flags, e := range w.engines {
			if l, at, no := suffix.Parse(e, word); l != nil || at != first || no != api.ErrRule {
				t.Errorf("21.1: flags %d: Parse of %q: %v, %d", flags, word, at, int(no))
			}
		}
		e := w.engines[0]
		checkRefused(t, e, "\n\t "+word+" \n", api.ErrRule, api.Place{At: 3, Line: 2, Column: 3})
		checkRefused(t, e, "com\n# x\r\n"+word+"#", api.ErrRule, api.Place{At: 9, Line: 3, Column: 1})
		// ahead of a second word, and of all lines behind
		checkRefused(t, e, word+" b", api.ErrRule, first)
		checkRefused(t, e, "a\n"+word+" "+word+"\n"+word+"\n"+many(500, "a"), api.ErrRule, api.Place{At: 2, Line: 2, Column: 1})
	}
}

// What hangs on what the engine asks.
func TestRulesByFlags(t *testing.T) {
	w := houseWorld(t)
	for _, c := range []struct {
		word string
		kept string
		flag int // with which it is refused
	}{
		{"-a", "-a", api.CheckHyphens}, {"a-", "a-", api.CheckHyphens}, {"ab--c", "ab--c", api.CheckHyphens}, {"*.-", "*.-", api.CheckHyphens}, {"!-.a", "!-.a", api.CheckHyphens},
		{"\u05D0a", "xn--a-zhc", api.CheckBidi}, {"*.1.\u05D0", "*.1.xn--4db", api.CheckBidi},
		{"a\u200Db", "", api.CheckJoiners},
		{many(64, "A"), many(64, "a"), api.VerifyDNS}, {"*." + many(64, "a"), "*." + many(64, "a"), api.VerifyDNS}, {"!a." + many(64, "b"), "!a." + many(64, "b"), api.VerifyDNS},
		{many(127, "a.") + "b", many(127, "a.") + "b", api.VerifyDNS}, {"!" + many(127, "a.") + "b", "!" + many(127, "a.") + "b", api.VerifyDNS},
		{"!" + many(126, "a.") + "b", "!" + many(126, "a.") + "b", 0}, {"*." + many(126, "a.") + "b", "*." + many(126, "a.") + "b", 0}, {many(63, "a"), many(63, "a"), 0},
	} {
		for flags, e := range w.engines {
			if c.kept == "" && flags&api.Transitional != 0 { // what it is mapped to then is another label
				continue
			}
			if flags&c.flag != 0 {
				checkRefused(t, e, "a\n"+c.word, api.ErrRule, api.Place{At: 2, Line: 2, Column: 1})
			} else if c.kept != "" {
				checkRules(t, e, c.word, c.kept)
			}
		}
	}
	// a Deviation that is mapped, or stays
	checkRules(t, w.engines[0], "\u03C3\u03C2", "xn--3xab")
	checkRules(t, w.engines[api.Transitional], "\u03C3\u03C2", "xn--4xaa")
	// a `*` is no label that the engine is asked of: it would have no direction that fits
	checkRules(t, w.engines[api.Strict], "*.\u05D0", "*.xn--4db")
	checkRules(t, w.engines[api.Strict], "!\u05D0.\u05D1", "!xn--4db.xn--5db")
}

func TestTaken(t *testing.T) {
	for flags, e := range houseWorld(t).engines {
		for word, kept := range map[string]string{
			"com": "com", "a": "a", "0": "0", "1.2": "1.2", "a-b": "a-b", "COM": "com", "Co.UK": "co.uk", "a.b.c.d.e": "a.b.c.d.e",
			"*": "*", "*.a": "*.a", "*.CK": "*.ck", "*.a.b": "*.a.b", "*.a.b.c.d": "*.a.b.c.d", "*.xn--bcher-kva": "*.xn--bcher-kva",
			"!a.b": "!a.b", "!www.ck": "!www.ck", "!WWW.City.JP": "!www.city.jp", "!a.b.c.d.e": "!a.b.c.d.e",
			"B\u00FCcher": "xn--bcher-kva", "*.B\u00FCcher.DE": "*.xn--bcher-kva.de", "!a.B\u00DCCHER": "!a.xn--bcher-kva", "XN--BCHER-KVA": "xn--bcher-kva", "xn--Bcher-Kva.a": "xn--bcher-kva.a",
			"a\u3002b": "a.b", "!a\u3002b": "!a.b", "*.a\uFF0Eb": "*.a.b", "!a\u00AD.b": "!a.b", "!\u00ADa.b": "!a.b", "\u33C7m": "co.m", "!\u33C7m": "!co.m",
			"a\u0302\u0300": "xn--tkg", "\u212A": "k", "\u00AD\u00ADa": "a",
		} {
			if flags == 0 || flags == api.Strict || flags == api.Flags || flags == api.UseSTD3 {
				checkRules(t, e, word, kept)
				checkRules(t, e, "\n \t"+word+"\r\n", kept)
				checkRules(t, e, word+"#"+word, kept)
			}
		}
	}
}

// What is kept has 400 bytes at most; the letters that say it are fewer.
func TestKeptLength(t *testing.T) {
	e := free(t)
	for _, c := range []struct{ front, word, kept string }{
		{"", "\u00FC.", "xn--tda."}, {"*.", "\u00FC.", "xn--tda."}, {"!", "\u00FC.", "xn--tda."},
		{"", many(40, "\u00FC."), many(40, "xn--tda.")}, {"*.", many(40, "\u00FC."), many(40, "xn--tda.")}, {"!", many(40, "\u00FC."), many(40, "xn--tda.")},
	} {
		rest := 400 - len(c.front) - len(c.kept)
		for _, size := range []int{rest - 1, rest} {
			checkRules(t, e, c.front+c.word+many(size, "a"), c.front+c.kept+many(size, "a"))
		}
		for _, size := range []int{rest + 1, rest + 2} {
			if s := c.front + c.word + many(size, "a"); len(s) <= 400 {
				checkRefused(t, e, "a\n"+s, api.ErrRule, api.Place{At: 2, Line: 2, Column: 1})
				checkRefused(t, e, "a\n "+s+"#", api.ErrRule, api.Place{At: 3, Line: 2, Column: 2})
			} else {
				t.Fatal("the test's own word is too long")
			}
		}
	}
	// far more: 24 letters of one, and more than a domain's text may have
	o := oddWorld(t).engines[0]
	checkRules(t, o, many(16, "&"), many(384, "a"))
	checkRules(t, o, many(16, "&")+many(16, "b"), many(384, "a")+many(16, "b"))
	checkRules(t, o, "*."+many(16, "&")+many(14, "b"), "*."+many(384, "a")+many(14, "b"))
	for _, s := range []string{many(17, "&"), many(16, "&") + many(17, "b"), "*." + many(16, "&") + many(15, "b"), "!a." + many(16, "&") + many(14, "b"), many(400, "&")} {
		checkRefused(t, o, s, api.ErrRule, first)
	}
	four := written(t, "four", base+"valid 10400\nmapped 26"+many(24, " 10400")+"\n")
	checkRefused(t, four.engines[0], many(400, "&"), api.ErrRule, first)
	checkRules(t, four.engines[0], "&", read(t, four.engines[0], many(24, "\U00010400")).All()...)
}

// A table may map the signs of rules: those in front are not asked of it, all others are.
func TestOddSigns(t *testing.T) {
	w := oddWorld(t)
	for flags, e := range w.engines {
		checkRules(t, e, "*", "*")
		checkRules(t, e, "*.c", "*.c")
		checkRules(t, e, "!c.d", "!c.d")
		checkRules(t, e, "c.*", "c.a")
		checkRules(t, e, "*.*", "*.a")
		checkRules(t, e, "**", "aa")
		checkRules(t, e, "!*.c", "!a.c")
		checkRules(t, e, "!!.c", "!b.c")
		checkRules(t, e, "*!", "ab")
		checkRules(t, e, "c$d", "c.d")
		checkRules(t, e, "!c$d", "!c.d")
		checkRules(t, e, "*$d", "a.d")
		checkRules(t, e, "!%", "!a.b")
		checkRules(t, e, "_c_", "c")
		checkRules(t, e, "*.+c-1ga.d", read(t, e, "*.xn--c-1ga.d").All()...)
		for _, word := range []string{"!", "!!", "!c", "!_", "_", "*._", "$", "c$", "$c", "*.$c", "(", "(.c", ")c.d", "Z", "COZ", "~", "c.~", "!c.Z", "c_$_$d"} {
			if r, at, no := suffix.Parse(e, word); r != nil || at != first || no != api.ErrRule {
				t.Errorf("21.1: flags %d: Parse of %q: %v, %d", flags, word, at, int(no))
			}
		}
	}
	checkRefused(t, w.engines[0], "c.*\nc.a", api.ErrTwice, api.Place{At: 4, Line: 2, Column: 1})
	checkRefused(t, w.engines[0], "*\n**\nAA", api.ErrTwice, api.Place{At: 5, Line: 3, Column: 1})
	checkRules(t, w.engines[0], "\u00FF", "xn--wda")
	checkRules(t, w.engines[api.Transitional], "!\u00FF", "!s.s")
	checkRefused(t, w.engines[0], "!\u00FF", api.ErrRule, first)
}

// Over a table in which all of ASCII is Valid: each byte at the beginning, in the midst, at the end of a label, and alone.
func TestLDH(t *testing.T) {
	e := written(t, "ascii", "valid 0..7F\n").engines[0]
	for c := range 0x80 {
		sign := string(rune(c))
		if strings.Contains("\t\n\r #", sign) {
			continue
		}
		taken := strings.Contains("abcdefghijklmnopqrstuvwxyz0123456789-", sign)
		for _, word := range []string{"a" + sign + "b", "a" + sign, "q." + sign + "b", "*.a." + sign, "!a.b" + sign + "c", "!" + sign + ".b"} {
			if taken || sign == "." && !strings.Contains("."+word+".", "..") {
				checkRules(t, e, word, word)
			} else {
				checkRefused(t, e, word, api.ErrRule, first)
			}
		}
	}
}

func TestSecondWords(t *testing.T) {
	e := strict(t)
	for _, c := range []struct {
		s      string
		at     int
		line   int
		column int
	}{
		{"a b", 2, 1, 3}, {"a b c", 2, 1, 3}, {"a\tb", 2, 1, 3}, {"a\rb", 2, 1, 3}, {" a  \t b# c", 6, 1, 7}, {"* *", 2, 1, 3}, {"*.a !", 4, 1, 5}, {"!a.b c.d", 5, 1, 6}, {"a a", 2, 1, 3}, {"a \xFF", 2, 1, 3}, {"b\u00FCcher x", 8, 1, 9},
		{"c\n\n  a b\n!\n", 7, 3, 5}, {"c\r\na b", 5, 2, 3}, {"# a b\na .", 8, 2, 3}, {"a\nb c\nd e", 4, 2, 3},
		// ahead of what is said twice
		{"a\na b", 4, 2, 3}, {"a\nA a", 4, 2, 3}, {"b\u00FCcher\nxn--bcher-kva !", 22, 2, 15},
	} {
		checkRefused(t, e, c.s, api.ErrWord, api.Place{At: c.at, Line: c.line, Column: c.column})
	}
	// but not ahead of what is no rule
	for _, s := range []string{"! a", "a. b", "a.* b", "!a a", "** a", "_ a b", "a..b c\nd e"} {
		checkRefused(t, e, s, api.ErrRule, first)
		checkRefused(t, e, "a\n "+s, api.ErrRule, api.Place{At: 3, Line: 2, Column: 2})
	}
	// nor of a line ahead
	checkRefused(t, e, "!\na b", api.ErrRule, first)
	checkRefused(t, e, "a\na\na b", api.ErrTwice, api.Place{At: 2, Line: 2, Column: 1})
	// a remark's words are none
	checkRules(t, e, "a # b\nc #d e\n", "a", "c")
}

func TestTwice(t *testing.T) {
	e := strict(t)
	for _, l := range [][]string{
		{"com", "COM", "cOm", "com\u00AD", "\u00ADc\u00ADo\u00ADm"},
		{"*", "*"},
		{"*.ck", "*.CK", "*.c\u212A", "*.\u00ADck"},
		{"!www.ck", "!WWW.ck", "!www\u3002ck", "!www.Ck"},
		{"b\u00FCcher.com", "B\u00DCCHER.com", "xn--bcher-kva.com", "XN--BCHER-KVA.COM", "bu\u0308cher.com", "b\u00FCcher\uFF0Ecom"},
		{"!b\u00FCcher.com", "!xn--Bcher-kva.com"},
		{"*.xn--3xab", "*.\u03C3\u03C2"},
		{"a.b", "a\u3002b"},
	} {
		for _, a := range l {
			for _, b := range l {
				checkRefused(t, e, a+"\n"+b, api.ErrTwice, api.Place{At: len(a) + 1, Line: 2, Column: 1})
				checkRefused(t, e, "x\n"+a+" # x\n\ny\n\t "+b+"\r\n!", api.ErrTwice, api.Place{At: len(a) + 12, Line: 5, Column: 3})
				checkRefused(t, e, a+"\n"+b+" z", api.ErrWord, api.Place{At: len(a) + len(b) + 2, Line: 2, Column: len(b) + 2})
			}
		}
	}
	// what is kept as other texts is not said twice
	checkRules(t, e, "a.b\n*.a.b\n!a.b\n*.b\nb\n*\na\nb.a", "!a.b", "*", "*.a.b", "*.b", "a", "a.b", "b", "b.a")
	checkRules(t, e, "com\n#com\nxn--bcher-kva\nbucher", "bucher", "com", "xn--bcher-kva")
	// the first that is said again is told
	checkRefused(t, e, "a\nb\nc\nb\na\nc", api.ErrTwice, api.Place{At: 6, Line: 4, Column: 1})
	checkRefused(t, e, "a\nb\na b\nb", api.ErrWord, api.Place{At: 6, Line: 3, Column: 3})
	checkRefused(t, e, "a\na\n"+many(401, " "), api.ErrTwice, api.Place{At: 2, Line: 2, Column: 1})
	checkRefused(t, e, "a\n!\na", api.ErrRule, api.Place{At: 2, Line: 2, Column: 1})
}

// Columns are counted in bytes, lines by their newlines.
func TestPlaces(t *testing.T) {
	e := free(t)
	checkRefused(t, e, "b\u00FCcher\n \u00FC \u00FC", api.ErrWord, api.Place{At: 12, Line: 2, Column: 5})
	checkRefused(t, e, many(1000, "\n")+"!", api.ErrRule, api.Place{At: 1000, Line: 1001, Column: 1})
	checkRefused(t, e, many(1000, "\r\n")+"\t!", api.ErrRule, api.Place{At: 2001, Line: 1001, Column: 2})
	checkRefused(t, e, many(1000, "# \u00FC\n")+"\r!\n", api.ErrRule, api.Place{At: 5001, Line: 1001, Column: 2})
	checkRefused(t, e, many(399, " ")+"!", api.ErrRule, api.Place{At: 399, Line: 1, Column: 400})
	checkRefused(t, e, "a\x0B!", api.ErrRule, first) // no blank
}

// 21.2

func TestAll(t *testing.T) {
	e := free(t)
	checkRules(t, e, "")
	checkRules(t, e, "b\nab\na\n-\n0\nz\n*\n*.b\n*.a\n!b.a\n!a.b\na.a\na-a\na0\naa\n9\n", "!a.b", "!b.a", "*", "*.a", "*.b", "-", "0", "9", "a", "a-a", "a.a", "a0", "aa", "ab", "b", "z")
	// the order of the texts, not that of labels or of numbers
	checkRules(t, e, "n10\nn9\nn1\nn100\nn1.a\nn1-a", "n1", "n1-a", "n1.a", "n10", "n100", "n9")
	checkRules(t, e, "z.a\na.z\n\u00FC\nxn\nxn-z\nxo", "a.z", "xn", "xn--tda", "xn-z", "xo", "z.a")
	for range 20 {
		r := read(t, e, rules(1000))
		if l := r.All(); !slices.IsSorted(l) || len(l) != 1000 || r.Len() != 1000 {
			t.Fatalf("21.2: All of 1000: %d, sorted %t", len(l), slices.IsSorted(l))
		}
	}
}

// Each answer is the caller's own; rules hang neither on what becomes of it, nor on calls, nor on other rules.
func TestRulesStay(t *testing.T) {
	e := free(t)
	want := []string{"!www.ck", "*.ck", "com", "net"}
	r := read(t, e, "com\n*.ck\n!www.ck\nnet")
	other := read(t, e, "org\n*.net")
	for range 3 {
		l := r.All()
		if !slices.Equal(l, want) {
			t.Fatalf("21.2: All: %q", l)
		}
		l = l[:cap(l)]
		for i := range l {
			l[i] = "org"
		}
		_ = append(l[:0], "a", "b", "c", "d", "e")
		r.Suffix("x.WWW.ck")
		r.Registrable("x.net.a")
		suffix.Parse(e, "com\n!")
		checkName(t, r, "a.net", 1, "a.net")
		checkName(t, other, "a.b.net", 2, "a.b.net")
		if r.Len() != 4 || other.Len() != 2 || !slices.Equal(other.All(), []string{"*.net", "org"}) {
			t.Fatalf("21.2: %d, %q", r.Len(), other.All())
		}
	}
	if a, b := r.All(), r.All(); &a[0] == &b[0] {
		t.Error("21.2: two answers share memory")
	}
}

// No text that is handed in is kept, or handed out again.
func TestTextsAreNotKept(t *testing.T) {
	b := []byte("com\n*.ck\n*\n!www.ck\nxn--bcher-kva.com\n")
	r := read(t, free(t), unsafe.String(&b[0], len(b)))
	clearAll := func(b []byte) {
		for i := range b {
			b[i] = 'x'
		}
	}
	clearAll(b)
	if l := r.All(); !slices.Equal(l, []string{"!www.ck", "*", "*.ck", "com", "xn--bcher-kva.com"}) {
		t.Errorf("21.1: the rules are now %q", l)
	}
	checkName(t, r, "a.b.ck", 2, "a.b.ck")
	for _, s := range []string{"a.com", "A.b.com", "a.b.ck", "x.www.CK"} {
		want, _ := r.Registrable(s)
		b = []byte(s)
		g, _ := r.Registrable(unsafe.String(&b[0], len(b)))
		clearAll(b)
		if g != want {
			t.Errorf("21.3: Registrable(%q) is now %q", s, g)
		}
	}
}

// 21.3

func TestNoRuleHolds(t *testing.T) {
	for _, text := range []string{"", "# none", "q.r", "!q.r", "*.q.r", "x.a.b\n!y.a.b\n*.x.b"} {
		r := read(t, free(t), text)
		checkName(t, r, "", 0, "")
		checkName(t, r, "a", 1, "")
		checkName(t, r, "a.b", 1, "a.b")
		checkName(t, r, "c.a.b", 1, "a.b")
		checkName(t, r, "d.c.A.b", 1, "A.b")
		checkName(t, r, ".", 1, ".")
		checkName(t, r, "..", 1, ".")
		checkName(t, r, "a.", 1, "a.")
		checkName(t, r, "a.b.", 1, "b.")
		checkName(t, r, ".a", 1, ".a")
		checkName(t, r, "..a", 1, ".a")
		checkName(t, r, "a..b", 1, ".b")
		checkName(t, r, "!q.s", 1, "!q.s")
		checkName(t, r, "*", 1, "")
		checkName(t, r, "!", 1, "")
		checkName(t, r, "!q", 1, "")
		checkName(t, r, "\xFF.\x00", 1, "\xFF.\x00")
	}
}

func TestHolds(t *testing.T) {
	r := read(t, free(t), "com\nco.uk\na.b.c.d\nb\n0\n")
	checkName(t, r, "com", 1, "")
	checkName(t, r, "a.com", 1, "a.com")
	checkName(t, r, "b.a.com", 1, "a.com")
	checkName(t, r, "co.uk", 2, "")
	checkName(t, r, "a.co.uk", 2, "a.co.uk")
	checkName(t, r, "b.a.co.uk", 2, "a.co.uk")
	// fewer labels than the rule
	checkName(t, r, "uk", 1, "")
	checkName(t, r, "d", 1, "")
	checkName(t, r, "c.d", 1, "c.d")
	checkName(t, r, "b.c.d", 1, "c.d")
	checkName(t, r, "a.b.c.d", 4, "")
	checkName(t, r, "x.a.b.c.d", 4, "x.a.b.c.d")
	checkName(t, r, "y.x.a.b.c.d", 4, "x.a.b.c.d")
	checkName(t, r, "a.x.b.c.d", 1, "c.d")
	// A to Z, and nothing else
	checkName(t, r, "Com", 1, "")
	checkName(t, r, "X.CO.Uk", 2, "X.CO.Uk")
	checkName(t, r, "Y.X.cO.uK", 2, "X.cO.uK")
	checkName(t, r, "Z.A.B.C.D", 4, "Z.A.B.C.D")
	checkName(t, r, "x.co.u\u212A", 1, "co.u\u212A")
	checkName(t, r, "x.co.U\xEB", 1, "co.U\xEB")
	checkName(t, r, "x.c\x4F\x4F.uk", 1, "c\x4F\x4F.uk")
	checkName(t, r, "x.\x10", 1, "x.\x10") // 0 is 30
	// names that only end alike
	for _, s := range []string{"xco.uk", "y.xco.uk", "y.-co.uk", "co.xuk", "a.co.ukx", "a.co.u", "a.o.uk", "a.co-uk.x", "co.uk.x", "a.co.uk.", "a.co..uk", "a.co.uk.com"} {
		if n := r.Suffix(s); n != 1 {
			t.Errorf("21.3: Suffix(%q): %d", s, n)
		}
	}
	// empty labels ahead, behind and within
	checkName(t, r, ".com", 1, ".com")
	checkName(t, r, "..com", 1, ".com")
	checkName(t, r, ".co.uk", 2, ".co.uk")
	checkName(t, r, "a..co.uk", 2, ".co.uk")
	checkName(t, r, "co.uk.", 1, "uk.")
	checkName(t, r, "co..uk", 1, ".uk")
}

func TestLongest(t *testing.T) {
	e := free(t)
	lines := []string{"d", "c.d", "a.b.c.d", "x.d", "*.x.d", "y.x.d"}
	r := read(t, e, strings.Join(lines, "\n"))
	checkName(t, r, "d", 1, "")
	checkName(t, r, "c.d", 2, "")
	checkName(t, r, "b.c.d", 2, "b.c.d")
	checkName(t, r, "a.b.c.d", 4, "")
	checkName(t, r, "q.b.c.d", 2, "b.c.d")
	checkName(t, r, "q.a.b.c.d", 4, "q.a.b.c.d")
	checkName(t, r, "x.d", 2, "")
	checkName(t, r, "z.x.d", 3, "")
	checkName(t, r, "y.x.d", 3, "")
	checkName(t, r, "q.z.x.d", 3, "q.z.x.d")
	// a shorter rule that holds does not lead on to a longer one
	checkName(t, r, "q.d", 1, "q.d")
	// a longer one needs no shorter ones
	r = read(t, e, "a.b.c.d.e")
	checkName(t, r, "a.b.c.d.e", 5, "")
	checkName(t, r, "q.a.b.c.d.e", 5, "q.a.b.c.d.e")
	checkName(t, r, "b.c.d.e", 1, "d.e")
}

func TestWild(t *testing.T) {
	e := free(t)
	r := read(t, e, "*.ck\n*.b.a\n")
	checkName(t, r, "ck", 1, "")
	checkName(t, r, "b.ck", 2, "")
	checkName(t, r, "B.CK", 2, "")
	checkName(t, r, "a.b.ck", 2, "a.b.ck")
	checkName(t, r, "x.A.B.ck", 2, "A.B.ck")
	checkName(t, r, "xck", 1, "")
	checkName(t, r, "b.xck", 1, "b.xck")
	checkName(t, r, "a", 1, "")
	checkName(t, r, "b.a", 1, "b.a")
	checkName(t, r, "c.b.a", 3, "")
	checkName(t, r, "d.c.b.a", 3, "d.c.b.a")
	// any label: an empty one, a very long one, one with the signs of rules
	for _, label := range []string{"", "*", "!", "!www", "\xFF", "b\u00FCcher", "A", many(300, "x"), many(5000, "x"), many(100000, "X")} {
		checkName(t, r, label+".ck", 2, "")
		checkName(t, r, "a."+label+".ck", 2, "a."+label+".ck")
		checkName(t, r, label+".a.ck", 2, label+".a.ck")
		checkName(t, r, "a."+label+".b.a", 3, "a."+label+".b.a")
	}
	checkName(t, r, ".a", 1, ".a")
	checkName(t, r, "a.ck.", 1, "ck.")
	checkName(t, r, "ck.", 1, "ck.")
	// `*` alone
	r = read(t, e, "*")
	for _, s := range []string{"a", "*", "!", "COM", "\xFF", many(5000, "x")} {
		checkName(t, r, s, 1, "")
		checkName(t, r, "b."+s, 1, "b."+s)
		checkName(t, r, "c.b."+s, 1, "b."+s)
	}
	checkName(t, r, "", 0, "")
	checkName(t, r, ".", 1, ".")
	checkName(t, r, "a.", 1, "a.")
	checkName(t, r, "a.b.", 1, "b.")
	checkName(t, read(t, e, "*\nb.c"), "a.b.c", 2, "a.b.c")
	checkName(t, read(t, e, "*\n*.c"), "a.b.c", 2, "a.b.c")
	checkName(t, read(t, e, "*\n!b.c"), "a.b.c", 1, "b.c")
}

func TestExceptions(t *testing.T) {
	e := free(t)
	r := read(t, e, "*.ck\n!www.ck\n")
	checkName(t, r, "www.ck", 1, "www.ck")
	checkName(t, r, "x.www.ck", 1, "www.ck")
	checkName(t, r, "y.x.WWW.Ck", 1, "WWW.Ck")
	checkName(t, r, "ww.ck", 2, "")
	checkName(t, r, "xwww.ck", 2, "")
	checkName(t, r, "x.ck", 2, "")
	checkName(t, r, "www.x.ck", 2, "www.x.ck")
	checkName(t, r, "ck", 1, "")
	// a label that begins with `!` is no exception's
	checkName(t, r, "!www.ck", 2, "")
	checkName(t, r, "x.!www.ck", 2, "x.!www.ck")
	// an exception where no rule would hold
	r = read(t, e, "!b.c\n!f.e.d")
	checkName(t, r, "c", 1, "")
	checkName(t, r, "b.c", 1, "b.c")
	checkName(t, r, "!b.c", 1, "!b.c")
	checkName(t, r, "x.!b.c", 1, "!b.c")
	checkName(t, r, "f.e.d", 2, "f.e.d")
	checkName(t, r, "x.f.e.d", 2, "f.e.d")
	checkName(t, r, "!f.e.d", 1, "e.d")
	checkName(t, r, "x.!f.e.d", 1, "e.d")
	checkName(t, r, "e.d", 1, "e.d")
	// the longest of two, whichever stands first
	for _, s := range []string{"!b.c\n!a.b.c", "!a.b.c\n!b.c", "!a.b.c\n*.b.c\n!b.c\n*.c\nx.a.b.c"} {
		r = read(t, e, s)
		checkName(t, r, "b.c", 1, "b.c")
		checkName(t, r, "a.b.c", 2, "a.b.c")
		checkName(t, r, "x.a.b.c", 2, "a.b.c")
		checkName(t, r, "z.b.c", 1, "b.c")
	}
	// one that is shorter than a rule that holds
	r = read(t, e, "!b.c\nx.a.b.c\n*.a.b.c\na.b.c\nc")
	checkName(t, r, "x.a.b.c", 1, "b.c")
	checkName(t, r, "y.x.a.b.c", 1, "b.c")
	checkName(t, r, "a.b.c", 1, "b.c")
	checkName(t, r, "b.c", 1, "b.c")
	checkName(t, r, "c", 1, "")
	checkName(t, r, "x.a.q.c", 1, "q.c")
	// one text, as a rule and as an exception
	r = read(t, e, "a.b\n!a.b")
	checkName(t, r, "a.b", 1, "a.b")
	checkName(t, r, "c.a.b", 1, "a.b")
	checkName(t, r, "!a.b", 1, "!a.b")
}

// Names are not mapped: a rule that is said in letters holds of what is carried.
func TestCarried(t *testing.T) {
	r := read(t, strict(t), "B\u00FCcher.com\n*.\u03C3\u03C2\n")
	checkName(t, r, "a.xn--bcher-kva.com", 2, "a.xn--bcher-kva.com")
	checkName(t, r, "a.XN--Bcher-KVA.com", 2, "a.XN--Bcher-KVA.com")
	checkName(t, r, "a.b\u00FCcher.com", 1, "b\u00FCcher.com")
	checkName(t, r, "a.b.xn--3xab", 2, "a.b.xn--3xab")
	checkName(t, r, "a.b.\u03C3\u03C2", 1, "b.\u03C3\u03C2")
	checkName(t, r, "a.xn--bcher-kva\u3002com", 1, "a.xn--bcher-kva\u3002com")
	checkName(t, r, "a.xn--bcher-kv\u00ADa.com", 1, "xn--bcher-kv\u00ADa.com")
}

// Rules of as many bytes as may be kept, and of as many labels.
func TestLongRules(t *testing.T) {
	e := free(t)
	ones := many(199, "a.") + "a" // 399 bytes, 200 labels
	for _, c := range []struct {
		rule   string
		labels int
		name   string
	}{
		{many(400, "a"), 1, many(400, "a")},
		{many(399, "a"), 1, many(399, "A")},
		{ones, 200, ones},
		{"b" + ones, 200, "B" + ones},
		{"*." + ones[:397], 200, "q." + ones[:397]},
		{"*." + ones[:397], 200, many(1000, "q") + "." + ones[:397]},
		{"*." + ones[:397], 200, "." + ones[:397]},
		{"*." + many(398, "a"), 2, "a." + many(398, "a")},
		{"*." + many(398, "a"), 2, "." + many(398, "a")},
		{"*." + many(397, "a"), 2, many(400, "x") + "." + many(397, "a")},
		{"b." + many(398, "a"), 2, "b." + many(398, "a")},
		{many(398, "a") + ".b", 2, many(398, "a") + ".b"},
	} {
		r := read(t, e, c.rule)
		checkName(t, r, c.name, c.labels, "")
		checkName(t, r, "x."+c.name, c.labels, "x."+c.name)
		checkName(t, r, "y."+many(300, "X")+"."+c.name, c.labels, many(300, "X")+"."+c.name)
		checkName(t, r, many(1000, "y.")+"x."+c.name, c.labels, "x."+c.name)
		if n := r.Suffix(c.name + "a"); n != 1 {
			t.Errorf("21.3: Suffix of %q: %d", some(c.name+"a"), n)
		}
	}
	for _, s := range []string{"b." + many(396, "a"), "b" + many(196, ".a"), many(396, "a") + ".b"} {
		r := read(t, e, "!"+s+"\n*."+s+"\n")
		n := strings.Count(s, ".")
		checkName(t, r, s, n, s)
		checkName(t, r, "x."+s, n, s)
		checkName(t, r, strings.ToUpper("x.y."+s), n, strings.ToUpper(s))
	}
	// an exception of 400 bytes
	for _, s := range []string{"b.c." + many(395, "a"), many(395, "a") + ".b.c", "bb" + many(198, ".a") + "a"} {
		r := read(t, e, "!"+s+"\n*\na")
		if len(r.All()[0]) != 400 {
			t.Fatalf("the test's own exception has %d bytes", len(r.All()[0]))
		}
		checkName(t, r, "x."+s, strings.Count(s, "."), s)
	}
}

// Names of any length: what is further ahead than a rule can be costs no more than to be counted.
func TestLongNames(t *testing.T) {
	r := read(t, free(t), "a\n*.b\n!c.b\na.a.a\n"+many(199, "a.")+"a\n*."+many(198, "a.")+"a")
	checkName(t, r, many(300000, "a.")+"a", 200, many(200, "a.")+"a")
	checkName(t, r, many(300000, "x.")+"b", 2, "x.x.b")
	checkName(t, r, many(300000, "x.")+"C.b", 1, "C.b")
	checkName(t, r, many(1000000, "."), 1, ".")
	checkName(t, r, many(1000000, "a")+".a", 1, many(1000000, "a")+".a")
	checkName(t, r, many(1000000, "a"), 1, "")
	checkName(t, r, "x."+many(1000000, "A")+".b", 2, "x."+many(1000000, "A")+".b")
}
