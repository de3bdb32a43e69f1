package idna_test

import (
	"strconv"
	"strings"
	"testing"

	"endonym/api"
)

// stays is an xn-- label that stays as it is, with one error.
func stays(s string, e api.Errs) domain { return domain{s, s, e, "", 0} }

func TestRefusedByPunycode(t *testing.T) {
	w := houseWorld(t)
	first := func(c int) string { return "xn--" + string(number(c-0x80, 72)) } // the number that puts in c alone
	for _, s := range []string{
		// not ASCII, whatever else is wrong with that
		"xn--b\u00FCcher", "xn--\u00FC", "xn--bcher-kva\u00FC", "xn--\u0250", "xn--\u05D0a", "xn--\u0300", "xn--z\u00FC", "xn--ab-\u4E00", "xn--\U00010400", "xn--_\u00FC-",
		// a byte that is no digit
		"xn---", "xn---abc", "xn--a!", "xn--!", "xn--ab-!", "xn--ab-a_", "xn--\u007F", "xn--\u0000", "xn--bcher-kv a", "xn--+++",
		// a number that does not end
		"xn--z", "xn--zc", "xn--bcher-kv", "xn--bcher-k", "xn--99999999", "xn--a-b-c",
		// a number above MaxDelta
		"xn--99999999a", "xn--99999999999999999999a", "xn--a-99999999b",
		// no scalar value
		first(0xD800), first(0xDFFF), first(0x110000), first(0x110001), first(1 << 24),
	} {
		w.check(t, stays(s, api.BadPunycode))
	}
	e := w.engines[0]
	checkUnicode(t, e, "XN--A!.B", "xn--a!.b", api.BadPunycode)
	checkUnicode(t, e, "xn--B\u00DC", "xn--b\u00FC", api.BadPunycode)
	// the neighbours of what is refused are told
	free := freeWorld(t)
	for _, c := range []int{0x80, 0xD7FF, 0xE000, 0x10FFFF} {
		s := first(c)
		free.check(t, fine(s, string(rune(c)), s))
	}
}

func TestPlain(t *testing.T) {
	w := houseWorld(t)
	for _, s := range []string{"xn--", "xn--a-", "xn--abc-", "xn--a-b-", "xn----", "xn-----", "xn--xn--", "xn--xn--a-", "xn--_-", "xn--z-", "xn--0-", "xn--\u007F-", "xn--" + many(70, "a") + "-"} {
		c := stays(s, api.BadPlain)
		if len(s) > 63 {
			c.more = api.BadLabel
		}
		w.check(t, c)
	}
	checkUnicode(t, w.engines[0], "XN--ABC-", "xn--abc-", api.BadPlain)
	checkUnicode(t, w.engines[0], "xn--\u00AD", "xn--", api.BadPlain)
	checkUnicode(t, w.engines[api.Transitional], "xn--\u200C", "xn--", api.BadPlain)
	checkUnicode(t, w.engines[0], "xn--\u200C", "xn--\u200C", api.BadPunycode)
}

func TestDecoded(t *testing.T) {
	w := houseWorld(t)
	w.check(t,
		fine("xn--bcher-kva", "b\u00FCcher", "xn--bcher-kva"), fine("xn--tda", "\u00FC", "xn--tda"), fine("xn--zca", "\u00DF", "xn--zca"), fine("xn--o39a", "\uAC00", "xn--o39a"), fine("xn--4db", "\u05D0", "xn--4db"), fine("xn--tkg", "\u1EA7", "xn--tkg"),
		// a Deviation is not mapped any more, whatever the flags say
		fine("xn--3xa", "\u03C2", "xn--3xa"), fine("xn--3xab", "\u03C3\u03C2", "xn--3xab"), fine("xn--kkg", "\u1E9E", "xn--kkg"), fine("xn--ngba799q", "\u0628\u200C\u0628", "xn--ngba799q"), fine("xn--11b2ezcw70k", "\u0915\u094D\u200D\u0937", "xn--11b2ezcw70k"),
		// xn-- again: it is not read once more
		domain{"xn--xn---3ra", "xn--\u00FC", api.BadPrefix | api.BadHyphen, "", 0}, domain{"xn--xn--xn---e6a", "xn--xn--\u00FC", api.BadPrefix | api.BadHyphen, "", 0},
		// what would be mapped, left out, cut, or is nothing
		domain{"xn--3ba", "\u00C0", api.BadStatus, "", 0}, domain{"xn--kba", "\u00AD", api.BadStatus, "", 0}, domain{"xn--r6j", "\u3002", api.BadStatus, "", 0}, domain{"xn--ab-r13a", "a\u3002b", api.BadStatus, "", 0}, domain{"xn--jna", "\u0250", api.BadStatus, "", 0}, domain{"xn--a", "\u0080", api.BadStatus, "", 0},
		// what is not its own normal form
		domain{"xn--a-vbb", "a\u0300", api.NotNFC, "", 0}, domain{"xn--72g", "\u212B", api.NotNFC | api.BadStatus, "", 0},
		// the other criteria of a label
		domain{"xn--ksa", "\u0300", api.BadMark, "", 0}, domain{"xn--ab-j1t", "a\u200Cb", api.BadJoiner, "xn--ab-j1t", 0}, domain{"xn--0ug", "\u200C", api.BadJoiner, "xn--0ug", 0}, domain{"xn--11b478i", "\u0915\u200D", api.BadJoiner, "xn--11b478i", 0},
		domain{"xn----eha", "-\u00FC", api.BadHyphen, "xn----eha", 0}, domain{"xn----dha", "\u00FC-", api.BadHyphen, "xn----dha", 0}, domain{"xn--ab---3ra", "ab--\u00FC", api.BadHyphen, "xn--ab---3ra", 0}, domain{"xn--_-eha", "_\u00FC", api.BadSTD3, "xn--_-eha", 0},
		domain{"xn--a-zhc", "\u05D0a", api.BadBidi, "xn--a-zhc", 0}, domain{"xn--1-0hc", "1\u05D0", api.BadBidi, "xn--1-0hc", 0}, fine("xn--1-zhc", "\u05D01", "xn--1-zhc"), domain{"xn--8hb", "\u0660", api.BadBidi, "xn--8hb", 0},
		// capital letters
		fine("XN--TDA", "\u00FC", "xn--tda"), fine("xN--BcHeR-kVa", "b\u00FCcher", "xn--bcher-kva"), fine("XN--3XA", "\u03C2", "xn--3xa"),
	)
	// a decoded Deviation and one that came as it is, side by side
	checkUnicode(t, w.engines[api.Transitional], "xn--3xa.\u03C2.xn--3xa", "\u03C2.\u03C3.\u03C2", 0)
	checkASCII(t, w.engines[api.Transitional], "xn--3xa.\u03C2.xn--3xa", "xn--3xa.xn--4xa.xn--3xa", 0)
	checkASCII(t, w.engines[0], "xn--3xa.\u03C2", "xn--3xa.xn--3xa", 0)
}

// No decoded label holds a full stop: what stands ahead of the last hyphen was cut at such, and no number puts one in.
func TestDecodedFullStops(t *testing.T) {
	w := houseWorld(t)
	w.check(t,
		domain{"xn--a.b-kva", "\u0080.b-kva", api.BadStatus, "", 0},
		domain{"xn--.-kva", "xn--.-kva", api.BadPlain | api.BadHyphen, "", 0},
		domain{"xn--\u3002a", "xn--.a", api.BadPlain, "", 0},
		domain{"xn--\u33C7", "xn--co.", api.BadPunycode, "", api.BadLabel},
	)
}

func TestSeveral(t *testing.T) {
	w := houseWorld(t)
	w.check(t,
		// what is wrong with each is told, in whichever order they stand
		domain{"xn--z.xn--", "xn--z.xn--", api.BadPunycode | api.BadPlain, "", 0}, domain{"xn--.xn--z", "xn--.xn--z", api.BadPunycode | api.BadPlain, "", 0},
		domain{"xn--z.xn--z", "xn--z.xn--z", api.BadPunycode, "", 0}, domain{"a.xn--z.b", "a.xn--z.b", api.BadPunycode, "", 0},
		domain{"xn--z.bad_", "xn--z.bad_", api.BadPunycode | api.BadSTD3, "", 0}, domain{"bad_.xn--z", "bad_.xn--z", api.BadPunycode | api.BadSTD3, "", 0},
		domain{"xn--z.-", "xn--z.-", api.BadPunycode | api.BadHyphen, "", 0}, domain{"ab--c.xn--", "ab--c.xn--", api.BadPlain | api.BadHyphen, "", 0},
		domain{"xn--a-vbb.\u0250.xn--ksa", "a\u0300.\u0250.\u0300", api.NotNFC | api.BadStatus | api.BadMark, "", 0},
		domain{"xn--bcher-kva.xn--z.xn--fa-hia", "b\u00FCcher.xn--z.fa\u00DF", api.BadPunycode, "", 0},
		domain{"xn--xn---3ra.xn--xn--a-.a_.-a", "xn--\u00FC.xn--xn--a-.a_.-a", api.BadPrefix | api.BadHyphen | api.BadPlain | api.BadSTD3, "", 0},
		domain{"a_b.c.d", "a_b.c.d", api.BadSTD3, "a_b.c.d", 0}, domain{"a.c.d_", "a.c.d_", api.BadSTD3, "a.c.d_", 0},
		domain{"xn--ab-j1t.xn--72g.xn----eha.xn--b\u00FC.xn--.xn--ksa._", "a\u200Cb.\u212B.-\u00FC.xn--b\u00FC.xn--.\u0300._", api.BadJoiner | api.NotNFC | api.BadStatus | api.BadHyphen | api.BadPunycode | api.BadPlain | api.BadMark | api.BadSTD3, "", 0},
		domain{"xn--z..xn--", "xn--z..xn--", api.BadPunycode | api.BadPlain, "", api.BadLabel},
		// several that are decoded
		fine("xn--tda.xn--zca.xn--4xa", "\u00FC.\u00DF.\u03C3", "xn--tda.xn--zca.xn--4xa"), fine("xn--tda.\u00FC.u\u0308", "\u00FC.\u00FC.\u00FC", "xn--tda.xn--tda.xn--tda"),
	)
	// each label is looked at as what it is: the first Deviation was decoded, the second would have been mapped
	checkUnicode(t, w.engines[api.Transitional], "xn--3xa.xn--a-vbb", "\u03C2.a\u0300", api.NotNFC)
	marks := written(t, "marks", base+"deviation 3C2 3C2\n")
	marks.check(t, fine("xn--3xa", "\u03C2", "xn--3xa"), domain{"xn--3xa.\u03C2", "\u03C2.\u03C2", deviating, "xn--3xa.xn--3xa", 0}, domain{"\u03C2.xn--3xa", "\u03C2.\u03C2", deviating, "xn--3xa.xn--3xa", 0})
}

// A label that stayed is looked at no further, and counts where it is asked what runs from right to left.
func TestRightToLeft(t *testing.T) {
	w := houseWorld(t)
	both := api.BadBidi | api.BadPunycode
	w.check(t,
		same("1a"), same("1a.a"), domain{"1a.\u05D0", "1a.\u05D0", api.BadBidi, "1a.xn--4db", 0}, domain{"\u05D0.1a", "\u05D0.1a", api.BadBidi, "xn--4db.1a", 0}, fine("\u05D0.a1", "\u05D0.a1", "xn--4db.a1"), fine("a.\u05D0.b", "a.\u05D0.b", "a.xn--4db.b"),
		domain{"\u0628.1", "\u0628.1", api.BadBidi, "xn--ngb.1", 0}, domain{"\u0660.a", "\u0660.a", api.BadBidi, "xn--8hb.a", 0}, domain{"a\u0660.b", "a\u0660.b", api.BadBidi, "xn--a-8pc.b", 0},
		// the decoded ones
		domain{"xn--4db.1a", "\u05D0.1a", api.BadBidi, "xn--4db.1a", 0}, domain{"1a.xn--4db", "1a.\u05D0", api.BadBidi, "1a.xn--4db", 0}, fine("xn--4db.a1", "\u05D0.a1", "xn--4db.a1"), fine("a.xn--4db", "a.\u05D0", "a.xn--4db"), domain{"a.b.xn--8hb.c", "a.b.\u0660.c", api.BadBidi, "a.b.xn--8hb.c", 0},
		// those that stayed: they are not held against the rules themselves
		domain{"xn--\u05D0.1a", "xn--\u05D0.1a", both, "", 0}, domain{"1a.xn--\u05D0", "1a.xn--\u05D0", both, "", 0}, domain{"a.1.xn--\u0660.b", "a.1.xn--\u0660.b", both, "", 0},
		domain{"xn--\u05D0.a", "xn--\u05D0.a", api.BadPunycode, "", 0}, domain{"xn--\u05D0.\u05D0", "xn--\u05D0.\u05D0", api.BadPunycode, "", 0}, domain{"xn--\u05D0", "xn--\u05D0", api.BadPunycode, "", 0}, domain{"xn--z.1a", "xn--z.1a", api.BadPunycode, "", 0}, domain{"xn--.1a", "xn--.1a", api.BadPlain, "", 0},
		// one beside two
		domain{"\u05D0.xn--4db.1a.a", "\u05D0.\u05D0.1a.a", api.BadBidi, "xn--4db.xn--4db.1a.a", 0},
	)
	// letters of ASCII that run from right to left: what is asked are the labels behind the decoding
	z := written(t, "z", base+"valid DF\nvalid 100\nbidi 7A R\nbidi 30..39 EN\nbidi 100 R\n")
	z.check(t,
		fine("xn--zca.1", "\u00DF.1", "xn--zca.1"),
		domain{"z.1", "z.1", api.BadBidi, "z.1", 0},
		domain{"xn--z.1", "xn--z.1", both, "", 0},
		domain{"xn--z-.1", "xn--z-.1", api.BadBidi | api.BadPlain, "", 0},
		domain{"xn--xda.1", "\u0100.1", api.BadBidi, "xn--xda.1", 0},
		domain{"xn--xda.xn--z", "\u0100.xn--z", api.BadPunycode, "", 0},
		domain{"xn--a.1", "\u0080.1", api.BadStatus, "", 0},
	)
	// what stands between labels is in none of them
	stop := written(t, "stop", base+"bidi 2E R\nbidi 30..39 EN\n")
	stop.check(t, same("1.2"), same("1.a.2"), domain{"1.", "1.", 0, "1.", api.BadLabel})
}

// Labels that are decoded become longer than the text was.
func TestDecodedTooLong(t *testing.T) {
	w := freeWorld(t)
	coded := func(n int) string { return "xn--" + many(n, "a") } // n times the code point 80, of two bytes
	long := func(s, u string) domain { return domain{s, u, 0, s, api.BadLabel | api.BadDomain} }
	tooLong := func(s string) domain { return domain{s, s, api.TooLong, "", 0} }
	x := func(n int) string { return many(n, "\u0080") }
	w.checkFew(t,
		long(coded(8191), x(8191)), long(coded(8192), x(8192)), tooLong(coded(8193)), tooLong(coded(9000)), tooLong(coded(16380)),
		long(coded(8191)+".a", x(8191)+".a"), tooLong(coded(8191)+".aa"), tooLong("b."+coded(8191)+"."), tooLong("."+coded(8192)), tooLong(coded(8192)+"."),
		long(coded(4096)+"."+coded(4095), x(4096)+"."+x(4095)), tooLong(coded(4096)+"."+coded(4096)),
		// nothing beside it, neither what was refused nor what is looked at
		tooLong("xn--z.xn--."+coded(8192)), tooLong(coded(8193)+".xn--z"), tooLong(coded(4096)+".-a-."+coded(4096)),
	)
	h := houseWorld(t)
	h.checkFew(t, domain{coded(8192), x(8192), api.BadStatus, "", api.BadLabel | api.BadDomain}, tooLong(coded(8193)))
}

// A label may come longer than a text can be, and be no longer than that in letters: it is asked when it is read.
func TestDecodedShorter(t *testing.T) {
	var b strings.Builder
	c := rune(0x10000)
	for i := range 4000 { // pairs of neighbours, the pairs far from each other
		b.WriteRune(c)
		if i%2 == 0 {
			c += 2*262 - 1
		} else {
			c++
		}
	}
	u := b.String()
	p := mustEncode(t, u)
	if len(u) != 16000 || len(p) <= api.MaxText {
		t.Fatalf("%d bytes in letters, %d as Punycode", len(u), len(p))
	}
	// a table of which each of many numbers is mapped to twenty-four digits
	lines, s := strings.Builder{}, "xn--"
	lines.WriteString(base + "valid 10000..10FFFF\n")
	for i := 0; i < len(p); i += 24 {
		lines.WriteString("mapped " + hex(0xE000+i/24))
		for _, d := range []byte(p[i:min(i+24, len(p))]) {
			lines.WriteString(" " + hex(int(d)))
		}
		lines.WriteString("\n")
		s += string(rune(0xE000 + i/24))
	}
	w := written(t, "pieces", lines.String())
	w.checkFew(t,
		domain{s, u, 0, "", api.TooLong | api.BadLabel | api.BadDomain},
		domain{s + "." + many(383, "a"), u + "." + many(383, "a"), 0, "", api.TooLong | api.BadLabel | api.BadDomain},
		domain{s + "." + many(384, "a"), s + "." + many(384, "a"), api.TooLong, "", 0},
		domain{s + ".xn--z", u + ".xn--z", api.BadPunycode, "", api.TooLong | api.BadLabel | api.BadDomain},
		// Punycode refuses what is not whole; as it stays it is too long
		domain{s + "9", s + "9", api.TooLong, "", 0},
	)
}

func hex(n int) string { return strings.ToUpper(strconv.FormatInt(int64(n), 16)) }
