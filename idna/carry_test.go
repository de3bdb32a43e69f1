package idna_test

import (
	"strings"
	"testing"

	"endonym/api"
)

// ToUnicode tells the letters beside errors and without, and the lengths that VerifyDNS asks are none of its errors.
func TestToUnicode(t *testing.T) {
	w := houseWorld(t)
	for flags := range 64 {
		e := w.engines[flags]
		checkUnicode(t, e, "", "", 0)
		checkUnicode(t, e, "A.", "a.", 0)
		checkUnicode(t, e, "..", "..", 0)
		checkUnicode(t, e, many(64, "A"), many(64, "a"), 0)
		checkUnicode(t, e, many(300, "\u00DC"), many(300, "\u00FC"), 0)
		checkUnicode(t, e, many(200, "a."), many(200, "a."), 0)
		checkUnicode(t, e, "A_\u0250", "a_\u0250", api.BadStatus|under(api.BadSTD3, flags))
		checkUnicode(t, e, "XN--Z.B\u00DCcher.", "xn--z.b\u00FCcher.", api.BadPunycode)
		checkUnicode(t, e, "\uFF21\xFF", "\uFF21\xFF", api.BadEncoding)
		checkUnicode(t, e, "\uFF21"+many(api.MaxText, "A"), "\uFF21"+many(api.MaxText, "A"), api.TooLong)
	}
	// no Punycode, and longer than MaxText as it is carried: it is not asked here
	free := freeWorld(t)
	for _, s := range []string{many(4000, "a") + "\U0010FFFF", many(5461, "\u4E00"), many(5461, "\u00FC.")} {
		for _, flags := range []int{0, api.VerifyDNS, api.Strict, api.Flags} {
			checkUnicode(t, free.engines[flags], s, s, 0)
		}
	}
}

// letters is a label that has n bytes as it is carried, which begins with c, once or more often.
func letters(t *testing.T, c string, n int) string {
	t.Helper()
	for times := 1; times < 5; times++ {
		for k := range n {
			if s := many(times, c) + many(k, "a"); len("xn--"+mustEncode(t, s)) == n {
				return s
			}
		}
	}
	t.Fatalf("no label with %q of %d bytes", c, n)
	return ""
}

func TestLengthOfLabels(t *testing.T) {
	w := freeWorld(t)
	for n := 1; n <= 63; n++ {
		w.check(t, same(many(n, "a")), same("b."+many(n, "a")+".c"))
	}
	w.check(t,
		domain{many(64, "a"), many(64, "a"), 0, many(64, "a"), api.BadLabel}, domain{"b." + many(64, "a"), "b." + many(64, "a"), 0, "b." + many(64, "a"), api.BadLabel}, domain{many(64, "a") + ".b", many(64, "a") + ".b", 0, many(64, "a") + ".b", api.BadLabel},
		domain{many(253, "a"), many(253, "a"), 0, many(253, "a"), api.BadLabel}, domain{many(254, "a"), many(254, "a"), 0, many(254, "a"), api.BadLabel | api.BadDomain},
	)
	// the bytes as it is carried are counted: neither those of the text nor its code points
	for _, c := range []string{"\u00FC", "\u4E00", "\U00010400"} {
		for _, n := range []int{61, 62, 63, 64, 65} {
			s := letters(t, c, n)
			d := fine(s, s, "xn--"+mustEncode(t, s))
			if n > 63 {
				d.more = api.BadLabel
			}
			w.check(t, d, domain{d.a, d.u, 0, d.a, d.more}, domain{"b." + s + ".c", "b." + s + ".c", 0, "b." + d.a + ".c", d.more})
		}
	}
	short := many(50, "\u4E00") // 150 bytes in letters
	w.check(t, fine(short, short, "xn--"+mustEncode(t, short)))
	long := "\u00FC" + many(58, "a") // 60 bytes in letters
	w.check(t, domain{long, long, 0, "xn--" + mustEncode(t, long), api.BadLabel})
}

func TestLengthOfDomains(t *testing.T) {
	w := freeWorld(t)
	parts := func(n int) string { // labels of 63 bytes and a shorter one
		s := many(n/64, many(63, "a")+".")
		return s + many(n-len(s), "b")
	}
	for _, n := range []int{1, 2, 63, 65, 100, 127, 250, 252, 253} {
		w.check(t, same(parts(n)))
	}
	for _, n := range []int{254, 255, 257, 1000, 16381} {
		w.checkFew(t, domain{parts(n), parts(n), 0, parts(n), api.BadDomain})
	}
	w.check(t,
		same(many(126, "a.")+"b"), domain{many(126, "a.") + "bb", many(126, "a.") + "bb", 0, many(126, "a.") + "bb", api.BadDomain},
		// a full stop at the end counts, and the empty label behind it
		domain{parts(252) + ".", parts(252) + ".", 0, parts(252) + ".", api.BadLabel}, domain{parts(253) + ".", parts(253) + ".", 0, parts(253) + ".", api.BadLabel | api.BadDomain},
		domain{"", "", 0, "", api.BadLabel | api.BadDomain},
	)
	// as it is carried, and not in letters: 36 labels of seven bytes
	s, a := many(35, "\u00FC.")+"\u00FC", many(31, "xn--tda.")
	w.check(t, domain{s, s, 0, many(35, "xn--tda.") + "xn--tda", api.BadDomain}, fine(many(31, "\u00FC.")+"abcde", many(31, "\u00FC.")+"abcde", a+"abcde"), domain{many(31, "\u00FC.") + "abcdef", many(31, "\u00FC.") + "abcdef", 0, a + "abcdef", api.BadDomain})
	// longer than 253 in letters, and not as it is carried
	long := many(4, many(30, "\u4E00")+".") + "a"
	w.check(t, fine(long, long, many(4, "xn--"+mustEncode(t, many(30, "\u4E00"))+".")+"a"))
	if len(long) <= 253 {
		t.Errorf("%d bytes in letters", len(long))
	}
}

func TestCarriedTooLong(t *testing.T) {
	const most = api.MaxText
	w := freeWorld(t)
	more := api.BadLabel | api.BadDomain
	// 2047 labels of seven bytes and their full stops, and eight bytes
	s, a := many(2047, "\u00FC."), many(2047, "xn--tda.")
	w.checkFew(t,
		domain{s + many(8, "a"), s + many(8, "a"), 0, a + many(8, "a"), api.BadDomain}, domain{s + many(9, "a"), s + many(9, "a"), 0, "", api.BadDomain | api.TooLong}, domain{s + "aaaaaaaa.", s + "aaaaaaaa.", 0, "", more | api.TooLong},
		domain{many(5461, "\u00FC."), many(5461, "\u00FC."), 0, "", more | api.TooLong},
	)
	// one label
	for _, c := range []string{"\u00FC", "\U00010400"} {
		k := 16370
		for len("xn--"+mustEncode(t, c+many(k, "a"))) < most {
			k++
		}
		x, y := c+many(k, "a"), c+many(k+1, "a")
		if n := len("xn--" + mustEncode(t, x)); n != most || len(y) > most {
			t.Fatalf("%q: %d bytes, %d in letters", c, n, len(y))
		}
		w.checkFew(t, domain{x, x, 0, "xn--" + mustEncode(t, x), more}, domain{y, y, 0, "", more | api.TooLong})
	}
	// what is carried longer than MaxText is told beside what is wrong with the labels
	checkASCII(t, w.engines[0], many(2048, "\u00FC.")+"xn--z", "", api.BadPunycode|api.TooLong)
	h := houseWorld(t)
	checkASCII(t, h.engines[0], many(2048, "\u00FC.")+"\u0250", "", api.BadStatus|api.TooLong)
	checkASCII(t, h.engines[api.UseSTD3], many(2048, "\u00FC.")+"_", "", api.BadSTD3|api.TooLong)
	checkASCII(t, h.engines[api.VerifyDNS], many(2048, "\u00FC.")+"\u0250.", "", api.BadStatus|more|api.TooLong)
}

// Labels for which there is no Punycode: they count as empty, and BadLabel is not told of them.
func TestOverflow(t *testing.T) {
	w := freeWorld(t)
	over := many(2000, "a") + "\U0010FFFF"
	if _, ok := encoded([]rune(over)); ok {
		t.Fatal("there is Punycode for it")
	}
	no := func(s string, more api.Errs) domain { return domain{s, s, 0, "", api.BadOverflow | more} }
	ten := many(9, "a") + "."
	w.checkFew(t,
		no(over, api.BadDomain), no("a."+over, 0), no(over+".a", 0), no(over+"."+over, 0), no("a."+over+".b."+over, 0), no(over+".\u00FC", 0),
		no(over+".", api.BadLabel), no("."+over, api.BadLabel), no(over+"..a", api.BadLabel), no(over+"."+many(63, "a"), 0), no(over+"."+many(64, "a"), api.BadLabel),
		// the full stops are counted beside it
		no(many(25, ten)+"aa."+over, 0), no(many(25, ten)+"aaa."+over, api.BadDomain), no(over+"."+many(25, ten)+"aa", 0), no(over+"."+many(25, ten)+"aaa", api.BadDomain), no("a."+over+"."+many(25, ten)+"aaa", api.BadDomain),
	)
	// and MaxText: 1,700 labels of seven bytes ahead
	s := many(1700, "\u00FC.")
	fits := s + over + "." + many(api.MaxText-1700*8-1, "a")
	if len(fits) > api.MaxText {
		t.Fatalf("%d bytes in letters", len(fits))
	}
	w.checkFew(t, no(fits, api.BadLabel|api.BadDomain), domain{fits + "a", fits + "a", 0, "", api.BadOverflow | api.BadLabel | api.BadDomain | api.TooLong})
	// beside what is wrong with labels
	checkASCII(t, w.engines[api.VerifyDNS], over+".xn--z", "", api.BadOverflow|api.BadPunycode)
	checkASCII(t, w.engines[api.Strict], over+".-", "", api.BadOverflow|api.BadHyphen)
	h := houseWorld(t)
	checkASCII(t, h.engines[0], over, "", api.BadOverflow|api.BadStatus)
	checkASCII(t, h.engines[api.VerifyDNS], over, "", api.BadOverflow|api.BadStatus|api.BadDomain)
	// a label that stayed is carried as any other that is not ASCII
	checkASCII(t, w.engines[0], "xn--"+over, "", api.BadPunycode|api.BadOverflow)
	checkASCII(t, w.engines[api.VerifyDNS], "a.xn--"+over, "", api.BadPunycode|api.BadOverflow)
}

// The least label for which there is no Punycode, and the greatest for which there is.
func TestMaxDelta(t *testing.T) {
	w := freeWorld(t)
	const last = 0x10FFFF
	k := 0 // letters ahead
	for (last-0x80)*(k+2)+k+1 <= api.MaxDelta {
		k++
	}
	fits, over := many(k, "a")+string(rune(last)), many(k+1, "a")+string(rune(last))
	w.checkFew(t, domain{fits, fits, 0, "xn--" + mustEncode(t, fits), api.BadLabel | api.BadDomain}, domain{over, over, 0, "", api.BadOverflow | api.BadDomain})
	// what cannot be carried cannot come so either
	s := "xn--" + many(k+1, "a") + "-" + string(number((last-0x80)*(k+2)+k+1, 72))
	w.checkFew(t, domain{s, s, api.BadPunycode, "", api.BadLabel | api.BadDomain})
	// each label is written by itself
	checkASCII(t, w.engines[0], fits+"."+fits, "xn--"+mustEncode(t, fits)+".xn--"+mustEncode(t, fits), 0)
}

// A label that stayed and is not ASCII is carried, for what is asked of lengths, as xn-- and the Punycode of the whole.
func TestStayedAndCarried(t *testing.T) {
	w := freeWorld(t)
	for _, n := range []int{40, 50, 51, 52, 53, 54, 55, 60} {
		s := "xn--\u00FC" + many(n-6, "a")
		more := api.Errs(0)
		if len("xn--"+mustEncode(t, s)) > 63 {
			more = api.BadLabel
		}
		w.check(t, domain{s, s, api.BadPunycode, "", more})
	}
	// one that is ASCII, as it is
	for n := 6; n < 70; n++ {
		s := "xn--" + many(n-5, "a") + "-"
		more := api.Errs(0)
		if n > 63 {
			more = api.BadLabel
		}
		w.check(t, domain{s, s, api.BadPlain, "", more})
	}
}

// With what Process tells alone nothing is asked of lengths.
func TestNothingFurther(t *testing.T) {
	w := houseWorld(t)
	for flags := range 64 {
		e := w.engines[flags]
		for _, s := range []string{"\xFF", "", "a.", "." + many(70, "a")} {
			checkASCII(t, e, s+"\xFF", "", api.BadEncoding)
			checkASCII(t, e, "\xFF"+s, "", api.BadEncoding)
			checkASCII(t, e, s+many(api.MaxText+1, "a"), "", api.TooLong)
		}
		checkASCII(t, e, many(api.MaxText+1, "."), "", api.TooLong)
	}
	for _, flags := range []int{0, api.VerifyDNS, api.Strict, api.Flags} {
		checkASCII(t, w.engines[flags], "xn--"+many(9000, "a"), "", api.TooLong)
	}
}

// Beside any error the text is empty, and beside none it is carried.
func TestEmptyBesideErrors(t *testing.T) {
	w := houseWorld(t)
	for e, s := range map[api.Errs]string{api.BadEncoding: "\xC3", api.TooLong: many(5000, "\u00FC."), api.NotNFC: "xn--a-vbb", api.BadHyphen: "-a", api.BadMark: "\u0300", api.BadStatus: "\u0250", api.BadSTD3: "a_", api.BadJoiner: "xn--ab-j1t", api.BadBidi: "\u05D0a", api.BadPunycode: "xn--z", api.BadPlain: "xn--", api.BadLabel: "a."} {
		if a, set := w.engines[api.Strict].ToASCII(s); a != "" || set&e == 0 {
			t.Errorf("19.4: ToASCII of %q: %q, %d", some(s), a, set)
		}
	}
	if a, set := w.engines[0].ToASCII("xn--xn---3ra"); a != "" || set != api.BadPrefix {
		t.Errorf("19.4: ToASCII: %q, %d", a, set)
	}
	if a, set := w.engines[api.VerifyDNS].ToASCII(strings.Repeat("a.", 127) + "a"); a != "" || set != api.BadDomain {
		t.Errorf("19.4: ToASCII: %q, %d", a, set)
	}
}
