package idna_test

import (
	"math"
	"slices"
	"strings"
	"testing"

	"endonym/api"
	"endonym/house"
	"endonym/idna"
)

// free has every code point as Valid, and nothing else said of any.
const free = base + "valid 0..2C\nvalid 2F\nvalid 3A..60\nvalid 7B..10FFFF\n"

func freeWorld(t *testing.T) *world { t.Helper(); return written(t, "free", free) }

func many(n int, s string) string { return strings.Repeat(s, n) }

// some is what of a text is worth showing.
func some(s string) string { return s[:min(len(s), 60)] }

// unread is what is told alone, and without labels, by Process.
const unread = api.TooLong | api.BadEncoding

// deviating stands in a test for a BadStatus that a Deviation alone brings.
const deviating api.Errs = 1 << 20

// under is what of all that can be told is told.
func under(can api.Errs, flags int) api.Errs {
	keep := func(e api.Errs, asked bool) {
		if !asked {
			can &^= e
		}
	}
	keep(api.BadHyphen, flags&1 != 0)
	keep(api.BadBidi, flags&2 != 0)
	keep(api.BadJoiner, flags&4 != 0)
	keep(api.BadSTD3, flags&8 != 0)
	keep(api.BadPrefix, flags&1 == 0)
	keep(api.BadLabel|api.BadDomain, flags&32 != 0)
	if can&deviating != 0 && flags&16 != 0 {
		can |= api.BadStatus
	}
	return can &^ deviating
}

// split is the labels of a text, as Process tells them.
func split(s string) [][]rune {
	var l [][]rune
	for _, x := range strings.Split(s, ".") {
		l = append(l, []rune(x))
	}
	return l
}

func joined(l [][]rune) string {
	var s []string
	for _, x := range l {
		s = append(s, string(x))
	}
	return strings.Join(s, ".")
}

func sameLabels(a, b [][]rune) bool { return slices.EqualFunc(a, b, slices.Equal[[]rune]) }

func checkProcess(t *testing.T, e *idna.Engine, s string, labels [][]rune, want api.Errs) {
	t.Helper()
	if l, set := e.Process(s); set != want || !sameLabels(l, labels) {
		t.Errorf("19.2: Process of %d bytes, %q, flags %d: %d labels, %d, want %d, %d: %q, want %q", len(s), some(s), e.Flags(), len(l), set, len(labels), want, some(joined(l)), some(joined(labels)))
	}
}

func checkUnicode(t *testing.T, e *idna.Engine, s, want string, errs api.Errs) {
	t.Helper()
	if u, set := e.ToUnicode(s); u != want || set != errs {
		t.Errorf("19.3: ToUnicode of %d bytes, %q, flags %d: %q, %d, want %q, %d", len(s), some(s), e.Flags(), some(u), set, some(want), errs)
	}
}

func checkASCII(t *testing.T, e *idna.Engine, s, want string, errs api.Errs) {
	t.Helper()
	if a, set := e.ToASCII(s); a != want || set != errs {
		t.Errorf("19.4: ToASCII of %d bytes, %q, flags %d: %q, %d, want %q, %d", len(s), some(s), e.Flags(), some(a), set, some(want), errs)
	}
}

// domain is a text, what it is in letters, all that can be told of that, what it is as it is carried, and all that can be
// told of that beside.
type domain struct {
	s, u string
	can  api.Errs
	a    string
	more api.Errs
}

// fine is a text of which nothing can be told.
func fine(s, u, a string) domain { return domain{s: s, u: u, a: a} }

// same is a text that is the same in letters and as it is carried.
func same(s string) domain { return fine(s, s, s) }

// checkUnder wants of a text what of all that can be told is told under one setting.
func (w *world) checkUnder(t *testing.T, flags int, c domain) {
	t.Helper()
	e, labels, told, all := w.engines[flags], split(c.u), under(c.can, flags), under(c.can|c.more, flags)
	if told&unread != 0 {
		labels = nil
	}
	checkProcess(t, e, c.s, labels, told)
	checkUnicode(t, e, c.s, c.u, told)
	if all != 0 {
		checkASCII(t, e, c.s, "", all)
	} else {
		checkASCII(t, e, c.s, c.a, 0)
	}
}

// check wants of texts, under every setting, what of all that can be told is told there.
func (w *world) check(t *testing.T, l ...domain) {
	t.Helper()
	for _, c := range l {
		for flags := 0; flags < 64 && !t.Failed(); flags++ {
			w.checkUnder(t, flags, c)
		}
	}
}

// checkFew is check under some of the settings, for texts that take their time.
func (w *world) checkFew(t *testing.T, l ...domain) {
	t.Helper()
	for _, c := range l {
		for _, flags := range []int{0, api.Transitional, api.VerifyDNS, api.Strict, api.Flags} {
			w.checkUnder(t, flags, c)
		}
	}
}

func TestNew(t *testing.T) {
	d := house.Data()
	for _, flags := range []int{math.MinInt, math.MinInt + 1, math.MinInt + 63, -1 << 32, -64, -63, -47, -2, -1, 64, 65, 80, 127, 128, 256, 1 << 16, 1 << 31, 1 << 32, 1<<32 + 1, 1 << 62, math.MaxInt - 63, math.MaxInt} {
		if e, no := idna.New(d, flags); e != nil || no != api.ErrArg {
			t.Errorf("19.1: New with %d: %v, %v", flags, e, no)
		}
		if e, no := idna.New(nil, flags); e != nil || no != api.ErrArg {
			t.Errorf("19.1: New without Data, with %d: %v, %v", flags, e, no)
		}
	}
	for flags := range 64 {
		e, no := idna.New(d, flags)
		if e == nil || no != api.OK || e.Flags() != flags {
			t.Fatalf("19.1: New with %d: %v, %v", flags, e, no)
		}
		if e, no := idna.New(nil, flags); e != nil || no != api.ErrArg {
			t.Errorf("19.1: New without Data, with %d: %v, %v", flags, e, no)
		}
	}
}

func TestHas(t *testing.T) {
	six := []int{api.CheckHyphens, api.CheckBidi, api.CheckJoiners, api.UseSTD3, api.Transitional, api.VerifyDNS}
	w := baseWorld(t)
	for flags, e := range w.engines {
		var o idna.Options = e.Options
		if e.Flags() != flags || o.Flags() != flags {
			t.Errorf("19.1: Flags of %d: %d, %d", flags, e.Flags(), o.Flags())
		}
		for i, flag := range six {
			if want := flags>>i&1 == 1; e.Has(flag) != want || o.Has(flag) != want {
				t.Errorf("19.1: Has(%d) of %d: %t", flag, flags, e.Has(flag))
			}
		}
		for several := range 64 {
			want := true
			for i := range six {
				want = want && (several>>i&1 == 0 || flags>>i&1 == 1)
			}
			if e.Has(several) != want || o.Has(several) != want {
				t.Errorf("19.1: Has(%d) of %d: want %t", several, flags, want)
			}
			for _, beyond := range []int{64, 128, 1 << 16, 1 << 31, 1 << 32, 1 << 62, math.MinInt, -64} {
				if e.Has(several|beyond) || o.Has(several|beyond) {
					t.Errorf("19.1: Has(%d) of %d: true", several|beyond, flags)
				}
			}
		}
		if !e.Has(0) || !o.Has(0) || e.Has(-1) {
			t.Errorf("19.1: Has(0), Has(-1) of %d: %t, %t", flags, e.Has(0), e.Has(-1))
		}
	}
}

// Engines over one Data are each by themselves.
func TestOptionsOfEach(t *testing.T) {
	w := houseWorld(t)
	for range 2 {
		checkASCII(t, w.engines[api.UseSTD3], "f_o", "", api.BadSTD3)
		checkASCII(t, w.engines[0], "f_o", "f_o", 0)
		checkASCII(t, w.engines[api.Transitional], "\u03C2", "xn--4xa", 0)
		checkASCII(t, w.engines[api.VerifyDNS], "", "", api.BadLabel|api.BadDomain)
		checkASCII(t, w.engines[0], "\u03C2", "xn--3xa", 0)
	}
}

func TestExamples(t *testing.T) {
	e := houseWorld(t).engines
	checkASCII(t, e[api.Strict], "B\u00FCcher.example", "xn--bcher-kva.example", 0)
	checkUnicode(t, e[api.Strict], "xn--fa-hia.de", "fa\u00DF.de", 0)
	checkASCII(t, e[api.Strict], "a.", "", api.BadLabel)
	checkASCII(t, e[0], "a.", "a.", 0)
	checkUnicode(t, e[0], "\xFF", "\xFF", api.BadEncoding)
	checkASCII(t, e[0], "\xFF", "", api.BadEncoding)
	checkUnicode(t, e[0], "xn--z", "xn--z", api.BadPunycode)
	checkUnicode(t, e[0], "xn--abc-", "xn--abc-", api.BadPlain)
	checkUnicode(t, e[0], "xn--", "xn--", api.BadPlain)
	checkASCII(t, e[0], "FOO", "foo", 0)
	checkASCII(t, e[api.UseSTD3], "f_o", "", api.BadSTD3)
	checkASCII(t, e[0], "f_o", "f_o", 0)
	checkASCII(t, e[0], "\u03C3\u03C2", "xn--3xab", 0)
	checkASCII(t, e[api.Transitional], "\u03C3\u03C2", "xn--4xaa", 0)
}

func TestExamplesOfTheWhole(t *testing.T) {
	w := houseWorld(t)
	e := w.engines
	w.check(t,
		fine("B\u00FCcher.example", "b\u00FCcher.example", "xn--bcher-kva.example"),
		fine("xn--bcher-kva.example", "b\u00FCcher.example", "xn--bcher-kva.example"),
		fine("b\u00FCcher.example", "b\u00FCcher.example", "xn--bcher-kva.example"),
		fine("xn--fa-hia.de", "fa\u00DF.de", "xn--fa-hia.de"),
		fine("a\u0302\u0300", "\u1EA7", "xn--tkg"),
		fine("\u1EA7", "\u1EA7", "xn--tkg"),
		fine("\u1E0D\u0307", "\u1E0D\u0307", "xn--rsa949k"),
		domain{"a_b", "a_b", api.BadSTD3, "a_b", 0},
	)
	checkUnicode(t, e[api.Strict], "\u0628\u200C\u0628", "\u0628\u200C\u0628", 0)
	checkUnicode(t, e[api.Strict], "a\u200Cb", "a\u200Cb", api.BadJoiner)
	checkASCII(t, e[api.Strict], "a\u200Cb", "", api.BadJoiner)
	checkUnicode(t, e[api.Strict], "\u05D01", "\u05D01", 0)
	checkUnicode(t, e[api.Strict], "\u05D0a", "\u05D0a", api.BadBidi)
	checkUnicode(t, e[api.Strict], "1", "1", 0)
	checkUnicode(t, e[api.Strict], "\u05D01.1", "\u05D01.1", api.BadBidi)
}

func TestFullStops(t *testing.T) {
	w := baseWorld(t)
	w.check(t,
		domain{"", "", 0, "", api.BadLabel | api.BadDomain},
		same("a"), same("a.b"), same("a.b.c"),
		domain{".", ".", 0, ".", api.BadLabel},
		domain{"..", "..", 0, "..", api.BadLabel},
		domain{".a", ".a", 0, ".a", api.BadLabel},
		domain{"a.", "a.", 0, "a.", api.BadLabel},
		domain{"a..", "a..", 0, "a..", api.BadLabel},
		domain{"a..b", "a..b", 0, "a..b", api.BadLabel},
		domain{".a.b.", ".a.b.", 0, ".a.b.", api.BadLabel},
		domain{many(253, "."), many(253, "."), 0, many(253, "."), api.BadLabel},
		domain{many(254, "."), many(254, "."), 0, many(254, "."), api.BadLabel | api.BadDomain},
	)
	w.checkUnder(t, 0, domain{many(16384, "."), many(16384, "."), 0, many(16384, "."), 0})
	w.checkUnder(t, 47, domain{many(16384, "."), many(16384, "."), 0, "", api.BadLabel | api.BadDomain})
	for s, n := range map[string]int{"": 1, ".": 2, "..": 3, "a": 1, "a.": 2, ".a": 2, "a..b": 3} {
		if l, set := w.engines[0].Process(s); len(l) != n || set != 0 {
			t.Errorf("19.2: Process of %q: %d labels, %d, want %d", s, len(l), set, n)
		}
	}
	// full stops that are mapped, and that are left when all else is Ignored
	houseWorld(t).check(t,
		domain{"\u3002", ".", 0, ".", api.BadLabel},
		domain{"a\uFF0E", "a.", 0, "a.", api.BadLabel},
		domain{"\u3002\u00AD.", "..", 0, "..", api.BadLabel},
		domain{"\u00AD\u200B\uFE0F", "", 0, "", api.BadLabel | api.BadDomain},
		domain{"\u33C7\u33C7", "co.co.", 0, "co.co.", api.BadLabel},
		fine("a\u3002b\uFF0Ec.d", "a.b.c.d", "a.b.c.d"),
	)
}

func TestMaxText(t *testing.T) {
	t.Parallel()
	const most = api.MaxText
	w := freeWorld(t)
	long := func(s string) domain { return domain{s, s, 0, s, api.BadLabel | api.BadDomain} }
	tooLong := func(s string) domain { return domain{s, s, api.TooLong, "", 0} }
	w.check(t, long(many(most-1, "a")), long(many(most, "a")), tooLong(many(most+1, "a")), tooLong(many(2*most, "a")), tooLong(many(most+1, ".")), tooLong(many(most, "a")+"\u00FC"))
	// bytes are counted, not code points
	for _, c := range []string{"\u00FC", "\u4E00", "\U00010400"} {
		n := most / len(c)
		fits := many(n, c) + many(most-n*len(c), "a")
		w.checkUnder(t, 0, domain{fits, fits, 0, "xn--" + mustEncode(t, fits), 0})
		w.check(t, tooLong(fits+"a"), tooLong("a"+fits), tooLong(fits+c))
	}
	// all that would be told is not told beside it
	h := houseWorld(t)
	h.check(t, tooLong(many(most/2, "A_")+"-"), tooLong(many(most, "\u0300")), tooLong("xn--z."+many(most, "a")), tooLong(many(most+1, "\u00AD")))
	// the text as it comes is counted, also where nothing is left of it
	h.check(t, domain{many(most/2, "\u00AD"), "", 0, "", api.BadLabel | api.BadDomain}, tooLong(many(most/2, "\u00AD")+"a"))
}

func mustEncode(t *testing.T, s string) string {
	t.Helper()
	p, ok := encoded([]rune(s))
	if !ok {
		t.Fatalf("no Punycode of %q", some(s))
	}
	return p
}

// noUTF8 are bytes that are no UTF-8 wherever they stand alone or ahead of ASCII.
var noUTF8 = []string{"\x80", "\xBF", "\xC0\x80", "\xC1\xBF", "\xC3", "\xE0\x80\x80", "\xE2\x82", "\xE2", "\xED\xA0\x80", "\xED\xBF\xBF", "\xF0\x80\x80\x80", "\xF0\x9F\x98", "\xF4\x90\x80\x80", "\xF5\x80\x80\x80", "\xFE", "\xFF"}

// W3, and where it ends: a text of more than MaxText bytes is too long, whatever they are.
func TestNoUTF8(t *testing.T) {
	t.Parallel()
	w := houseWorld(t)
	bad := func(s string) domain { return domain{s, s, api.BadEncoding, "", 0} }
	for _, b := range noUTF8 {
		w.check(t, bad(b), bad(b+"a"), bad("a"+b), bad("a"+b+"b"), bad("A.B."+b), bad(b+".A"), bad("\u00FC"+b), bad(b+"\u00FC"), bad(b+b))
		// beside what else would be told, or be left out
		w.check(t, bad("xn--"+b), bad("xn--z."+b), bad("-a_."+b+".-"), bad("\u00AD"+b), bad("\u0250"+b+"\u05D0a"))
		full := many(api.MaxText-len(b), "a")
		w.check(t, bad(full+b), bad(b+full))
		for _, s := range []string{"a" + full + b, b + full + "a"} {
			w.check(t, domain{s, s, api.TooLong, "", 0})
		}
	}
	// one text cut within its last letter, at each place
	s := "b\u00FC\u4E00\U00010400"
	for i := range len(s) + 1 {
		if i == 0 || i == 1 || i == 3 || i == 6 || i == 10 {
			if _, set := w.engines[0].ToUnicode(s[:i]); set != 0 {
				t.Errorf("19.2: %q: %d", s[:i], set)
			}
			continue
		}
		w.check(t, bad(s[:i]))
	}
}

// piled has a letter with fifteen marks that compose with it one after the other, so that many that are mapped become few.
// 500 is mapped to sixteen that compose to one, 501 to twenty-four that do not.
const piled = base + "valid 300\nvalid 400..40F\nclass 300 230\nmapped 500 400" + " 300 300 300 300 300 300 300 300 300 300 300 300 300 300 300\nmapped 501 61 62 63 64 65 66 67 68 69 6A 6B 6C 6D 6E 6F 70 71 72 73 74 75 76 77 78\n" +
	"deviation 502 400" + " 300 300 300 300 300 300 300 300 300 300 300 300 300 300 300\nignored 503\n" +
	"decomp 401 400 300\ndecomp 402 401 300\ndecomp 403 402 300\ndecomp 404 403 300\ndecomp 405 404 300\ndecomp 406 405 300\ndecomp 407 406 300\ndecomp 408 407 300\ndecomp 409 408 300\ndecomp 40A 409 300\ndecomp 40B 40A 300\ndecomp 40C 40B 300\ndecomp 40D 40C 300\ndecomp 40E 40D 300\ndecomp 40F 40E 300\n"

func TestMaxPoints(t *testing.T) {
	t.Parallel()
	w := written(t, "piled", piled)
	u := many(4096, "\u040F")
	most := many(4096, "\u0500") // mapped it has MaxPoints
	carried := "xn--" + mustEncode(t, u)
	w.checkFew(t,
		domain{most, u, 0, carried, api.BadLabel | api.BadDomain},
		domain{most + "\u0503", u, 0, carried, api.BadLabel | api.BadDomain},
		domain{most[:8190] + many(16, "a"), u[:8190] + many(16, "a"), 0, "xn--" + mustEncode(t, u[:8190]+many(16, "a")), api.BadLabel | api.BadDomain},
	)
	tooLong := func(s string) domain { return domain{s, s, api.TooLong, "", 0} }
	w.checkFew(t, tooLong(most+"a"), tooLong("a"+most), tooLong(most+"."), tooLong(most+"\u0300"), tooLong(most+"\u0500"), tooLong(most[:8190]+many(17, "a")), tooLong("-.."+most+".xn--z"))
	// Deviations are counted as they are mapped
	deviations := many(4096, "\u0502")
	w.checkUnder(t, api.Transitional, domain{deviations, u, 0, carried, 0})
	w.checkUnder(t, api.Transitional, tooLong(deviations+"a"))
	checkUnicode(t, w.engines[0], deviations+"a", deviations+"a", 0)
	// many more
	w.checkFew(t, tooLong(many(8192, "\u0500")), tooLong(many(2731, "\u0501")), tooLong(many(8192, "\u0501")))
	// not more than MaxPoints, and more than MaxText in letters
	w.checkFew(t, tooLong(many(2730, "\u0501")+many(16, "a")), tooLong(many(683, "\u0501")), domain{many(682, "\u0501") + many(16, "a"), many(682, "abcdefghijklmnopqrstuvwx") + many(16, "a"), 0, many(682, "abcdefghijklmnopqrstuvwx") + many(16, "a"), api.BadLabel | api.BadDomain})
	w.checkFew(t, tooLong(many(682, "\u0501")+many(17, "a")), tooLong(many(341, "\u0501")+"."+many(341, "\u0501")+many(16, "a")))
}

// What is mapped to no more than MaxPoints may open to more: what is left of it when it is composed is asked.
func TestOpened(t *testing.T) {
	w := written(t, "opened", base+"opens 100 101 101\nopens 101 102 102\nopens 102 103 103\nopens 103 104 104\nopens 104 61 61\nmapped 110 100\n")
	one := many(32, "a")
	w.checkFew(t, fine("\u0100", one, one), fine("\u0110.\u0102", one+".aaaaaaaa", one+".aaaaaaaa"), domain{many(512, "\u0100"), many(512, one), 0, many(512, one), api.BadLabel | api.BadDomain})
	for _, s := range []string{many(513, "\u0100"), many(512, "\u0100") + "a", many(2049, "\u0100"), many(8192, "\u0110"), "xn--" + many(8190, "\u0100"), "xn--" + many(2047, "\u0100")} {
		w.checkFew(t, domain{s, s, api.TooLong, "", 0})
	}
}

func TestMapped(t *testing.T) {
	w := houseWorld(t)
	w.check(t,
		// to a full stop, alone and behind others
		fine("a\u3002b", "a.b", "a.b"), fine("\u33C7a", "co.a", "co.a"), fine("\u33C7\u00FC", "co.\u00FC", "co.xn--tda"),
		// to nothing
		fine("a\u00ADb", "ab", "ab"), fine("\u00AD\u200Ba\uFE0F", "a", "a"), domain{"a.\u00AD.b", "a..b", 0, "a..b", api.BadLabel},
		// to several
		fine("\uFB01", "fi", "fi"), fine("\uFB05x", "stx", "stx"), fine("\u013F", "l\u00B7", "xn--l-gda"),
		domain{"\u0149", "\u02BCn", api.BadStatus, "", 0},
		// to what is not composed yet, or not in its order
		fine("a\u0340", "\u00E0", "xn--0ca"), fine("A\u030A", "\u00E5", "xn--5ca"), fine("\u212B", "\u00E5", "xn--5ca"), fine("d\u0307\u0323", "\u1E0D\u0307", "xn--rsa949k"), fine("\u1E0B\u0323", "\u1E0D\u0307", "xn--rsa949k"),
		fine("i\u00AD\u0300", "\u00EC", "xn--dda"), fine("\u0397\u0344", "\u03B7\u0308\u0301", "xn--lsan83c"), fine("a\u200B\u0302\u00AD\u0300", "\u1EA7", "xn--tkg"), fine("\u1100\u1161", "\uAC00", "xn--o39a"), fine("\u0958", "\u0915\u093C", "xn--11b2f"), fine("\u2126\u0301", "\u03CE", "xn--gya"),
		// across what becomes a full stop
		domain{"a\u3002\u0300", "a.\u0300", api.BadMark, "", 0},
		domain{"a\u33C7\u0300b", "aco.\u0300b", api.BadMark, "", 0},
		fine("o\u3002o\u0302", "o.\u00F4", "o.xn--lda"),
		domain{"\u1100\u3002\uAC00", "\u1100.\uAC00", api.BadStatus, "", 0},
		// what no record speaks of stays
		domain{"\u0250", "\u0250", api.BadStatus, "", 0}, domain{"a\u0250.b", "a\u0250.b", api.BadStatus, "", 0}, domain{"\u0000", "\u0000", api.BadStatus | api.BadSTD3, "", 0},
	)
	// Deviations are mapped with Transitional alone
	for flags := range 64 {
		e := w.engines[flags]
		if flags&api.Transitional == 0 {
			checkUnicode(t, e, "a\u03C2", "a\u03C2", 0)
			checkASCII(t, e, "\u1E9E", "xn--kkg", 0)
			checkUnicode(t, e, "\u0915\u094D\u200D\u0937", "\u0915\u094D\u200D\u0937", 0)
			checkASCII(t, e, "\u03B1\u03C2", "xn--mxa8a", 0)
			continue
		}
		checkUnicode(t, e, "a\u03C2", "a\u03C3", 0)
		checkASCII(t, e, "\u1E9E", "ss", 0)
		checkUnicode(t, e, "\u0915\u094D\u200D\u0937", "\u0915\u094D\u0937", 0)
		checkUnicode(t, e, "x\u200Cn--z", "xn--z", api.BadPunycode)
		checkASCII(t, e, "xn-\u200C-bcher-kva", "xn--bcher-kva", 0)
	}
}

// Where xn-- comes of what is mapped and composed, and where it goes with it.
func TestWhichAreCoded(t *testing.T) {
	w := houseWorld(t)
	w.check(t,
		fine("XN--BCHER-KVA", "b\u00FCcher", "xn--bcher-kva"), fine("Xn--bCHER-kVa", "b\u00FCcher", "xn--bcher-kva"), fine("x\u00ADn-\u200B-bcher\u00AD-kva", "b\u00FCcher", "xn--bcher-kva"),
		fine("\u33C7xn--bcher-kva", "co.b\u00FCcher", "co.xn--bcher-kva"), fine("a\u3002XN--BCHER-KVA\uFF0Eb", "a.b\u00FCcher.b", "a.xn--bcher-kva.b"),
		fine("xn--bcher-kva\u3002xn--fa-hia", "b\u00FCcher.fa\u00DF", "xn--bcher-kva.xn--fa-hia"),
		same("xn-bcher-kva"), same("xnbcher-kva"), same("axn--bcher-kva"), same("x.n--bcher-kva"),
		domain{"xm--bcher-kva", "xm--bcher-kva", api.BadHyphen, "xm--bcher-kva", 0},
		domain{"-xn--bcher-kva", "-xn--bcher-kva", api.BadHyphen, "-xn--bcher-kva", 0},
	)
	// the fourth number composes with what is behind it; a capital is Valid, and no small letter
	odd := written(t, "odd", base+"valid FC\nvalid 300\nclass 300 230\nvalid 1E3..1E4\ndecomp 1E3 2D 300\ndecomp 1E4 6E 300\nvalid 41..5A\nmapped 1E5 78 6E 2D 2D\nmapped 1E6 2D 300\n")
	odd.check(t,
		fine("xn--\u0300", "xn-\u01E3", "xn--xn--xfb"),
		domain{"xn\u0300--bcher-kva", "x\u01E4--bcher-kva", api.BadHyphen, "xn--x--bcher-kva-j1d", 0},
		fine("xn-\u01E6bcher-kva", "xn-\u01E3bcher-kva", "xn--xn-bcher-kva-70d"),
		fine("\u01E5bcher-kva", "b\u00FCcher", "xn--bcher-kva"),
		domain{"XN--BCHER-KVA", "XN--BCHER-KVA", api.BadHyphen | api.BadSTD3, "XN--BCHER-KVA", 0},
		domain{"Xn--bcher-kva", "Xn--bcher-kva", api.BadHyphen | api.BadSTD3, "Xn--bcher-kva", 0},
		fine("xn--bcher-KVA", "b\u00FCcher", "xn--bcher-kva"),
		domain{"xn--BCHER-kva", "B\u00FCCHER", api.BadSTD3, "xn--BCHER-kva", 0},
	)
	// a capital of no status is told where it is seen: not where it was a digit
	written(t, "small", base+"valid FC\n").check(t,
		fine("xn--bcher-KVA", "b\u00FCcher", "xn--bcher-kva"),
		domain{"xn--Bcher-KVA", "B\u00FCcher", api.BadStatus | api.BadSTD3, "", 0},
		domain{"XN--bcher-kva", "XN--bcher-kva", api.BadStatus | api.BadSTD3 | api.BadHyphen, "", 0},
	)
}
