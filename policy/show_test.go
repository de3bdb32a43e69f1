package policy_test

import (
	"math"
	"strings"
	"testing"

	"endonym/api"
	"endonym/policy"
)

// checkShow holds what Show tells against what the test and the document say, and against 23.4.
func (w *world) checkShow(t *testing.T, p *policy.Policy, s string, want shown) {
	t.Helper()
	if r := w.show(t, p.Flags(), p.Limit(), s); r != want {
		t.Fatalf("%s: the words say that %d bytes, %q, are shown with %d, %v as %q, %d, %d, want %q, %d, %d", w.name, len(s), some(s), p.Flags(), p.Limit(), some(r.text), r.n, r.set, some(want.text), want.n, want.set)
	}
	w.holdShow(t, p, s, want)
}

func (w *world) holdShow(t *testing.T, p *policy.Policy, s string, want shown) {
	t.Helper()
	text, n, set := p.Show(s)
	if text != want.text || n != want.n || set != want.set {
		t.Fatalf("23.3: %s: Show of %d bytes, %q, with %d, %v: %q, %d, %d, want %q, %d, %d", w.name, len(s), some(s), p.Flags(), p.Limit(), some(text), n, set, some(want.text), want.n, want.set)
	}
	if set != 0 {
		return
	}
	a, _ := p.ToASCII(s)
	if b, set := p.ToASCII(text); b != a || set != 0 {
		t.Fatalf("23.4: %s: %q, with %d, %v, is carried as %q, and what is shown of it, %q, as %q, %d", w.name, some(s), p.Flags(), p.Limit(), some(a), some(text), some(b), set)
	}
	u, _ := p.ToUnicode(a)
	carried, letters := strings.Split(a, "."), strings.Split(u, ".")
	if p.Limit() == inf && text != u {
		t.Fatalf("23.4: %s: %q, with %d and no limit: %q, want %q", w.name, some(s), p.Flags(), some(text), some(u))
	}
	stay := 0
	for i, label := range strings.Split(text, ".") {
		x := []rune(label)
		switch {
		case label == letters[i] && (isASCII(x) || p.Cost(x) <= p.Limit()):
		case label == carried[i] && label != letters[i]:
			stay++
		default:
			t.Fatalf("23.4: %s: %q, with %d, %v, is shown as %q: the label %q costs %v", w.name, some(s), p.Flags(), p.Limit(), some(text), label, p.Cost(x))
		}
	}
	if stay != n {
		t.Fatalf("23.3: %s: %q, with %d, %v, is shown as %q: %d labels stay, %d are told", w.name, some(s), p.Flags(), p.Limit(), some(text), stay, n)
	}
}

// whole is a text that is shown without errors.
func whole(text string, n int) shown { return shown{text, n, 0} }

// checkAll holds a text, shown with a limit, under the settings.
func (w *world) checkAll(t *testing.T, flags []int, limit float64, s string, want shown) {
	t.Helper()
	for _, f := range flags {
		w.checkShow(t, w.made(t, f, limit), s, want)
	}
}

func TestExamples(t *testing.T) {
	w := houseWorld(t)
	p := w.made(t, api.Strict, 1)
	w.checkShow(t, p, "B\u00FCcher.de", whole("b\u00FCcher.de", 0))
	w.checkShow(t, p, "\u0430\u0431.de", whole("\u0430\u0431.de", 0))
	w.checkShow(t, p, "\u0430.de", whole("xn--80a.de", 1))
	w.checkShow(t, p, "a_b", shown{"", 0, api.BadSTD3})
	w.checkShow(t, w.made(t, api.Strict, 0), "\u0430\u0431", whole("\u0430\u0431", 0))
	for _, limit := range []float64{0, 1, 1e30, math.MaxFloat32} {
		w.checkAll(t, settings(), limit, "\u0430", whole("xn--80a", 1))
	}
	w.checkAll(t, settings(), inf, "\u0430", whole("\u0430", 0))
	w.checkAll(t, settings(), math.MaxFloat64, "\u0430", whole("\u0430", 0)) // too great for binary32
}

// What ToASCII refuses is not shown, whatever the limit.
func TestShowRefused(t *testing.T) {
	w := houseWorld(t)
	over := many(2000, "a") + "\U0010FFFF" // there is no Punycode for it
	all := api.Errs(0)
	for _, c := range []struct {
		flags int
		s     string
		set   api.Errs
	}{
		{api.Strict, "\xC3", api.BadEncoding}, {0, "a.\xFF", api.BadEncoding}, {0, many(16385, "a"), api.TooLong}, {0, many(5000, "\u00FC."), api.TooLong}, {api.Strict, "xn--" + many(9000, "a"), api.TooLong},
		{0, "xn--a-vbb", api.NotNFC}, {api.CheckHyphens, "-a", api.BadHyphen}, {0, "xn--xn---3ra", api.BadPrefix}, {0, "\u0300", api.BadMark}, {0, "\u0250", api.BadStatus}, {api.UseSTD3, "a_", api.BadSTD3}, {api.CheckJoiners, "a\u200Cb", api.BadJoiner}, {api.CheckBidi, "\u05D0a", api.BadBidi},
		{0, "xn--z", api.BadPunycode}, {0, "xn--", api.BadPlain}, {0, over, api.BadOverflow | api.BadStatus}, {api.VerifyDNS, "a.", api.BadLabel}, {api.VerifyDNS, "", api.BadLabel | api.BadDomain}, {api.VerifyDNS, many(126, "a.") + "bb", api.BadDomain}, {api.Strict, many(50, "\u00FC.") + "-.xn--z.", api.BadHyphen | api.BadPunycode | api.BadLabel | api.BadDomain},
		{api.Strict, "\u00FC.a_b.\u05D0a.\u0430", api.BadSTD3 | api.BadBidi},
	} {
		for _, limit := range []float64{0, 1, inf} {
			w.checkShow(t, w.made(t, c.flags, limit), c.s, shown{"", 0, c.set})
		}
		all |= c.set
	}
	if all|api.BadDot != 1<<16-1 { // no text comes to a label with a full stop
		t.Errorf("%b are asked", all)
	}
	f := freeWorld(t)
	for _, limit := range []float64{0, inf} {
		f.checkShow(t, f.made(t, 0, limit), over, shown{"", 0, api.BadOverflow})
		f.checkShow(t, f.made(t, 0, limit), many(2047, "\u00FC.")+many(9, "a"), shown{"", 0, api.TooLong})
	}
}

// The root, and labels without anything.
func TestShowOfNothing(t *testing.T) {
	w := houseWorld(t)
	var lax, verify []int
	for _, flags := range settings() {
		if flags&api.VerifyDNS == 0 {
			lax = append(lax, flags)
		} else {
			verify = append(verify, flags)
		}
	}
	for _, limit := range []float64{0, 1, inf} {
		for _, s := range []string{"", ".", "..", "a.", ".a", "a..b", many(300, ".")} {
			w.checkAll(t, lax, limit, s, whole(s, 0))
		}
		w.checkAll(t, lax, limit, "\u00AD", whole("", 0)) // it is left out
		w.checkAll(t, lax, limit, "\uFF0E\u3002", whole("..", 0))
		w.checkAll(t, verify, limit, "", shown{"", 0, api.BadLabel | api.BadDomain})
		w.checkAll(t, verify, limit, "\u00AD", shown{"", 0, api.BadLabel | api.BadDomain})
		w.checkAll(t, verify, limit, ".", shown{"", 0, api.BadLabel})
	}
	w.checkAll(t, lax, 0, "\u00FC.", whole("xn--tda.", 1))
	w.checkAll(t, lax, 0, ".\u00FC..\u0431.", whole(".xn--tda..\u0431.", 1))
}

// Labels that are ASCII are shown whatever they cost.
func TestShowASCII(t *testing.T) {
	w := written(t, "dear", free+"weight 0..10FFFF inf\nscript 61 Aaaa\nscript 62 Bbbb\nmix Aaaa Bbbb inf\nlooks 61 62\n")
	p := w.made(t, 0, 0)
	w.checkCost(t, p, points(0x61, 0x62), inf)
	for _, flags := range settings() {
		p := w.made(t, flags, 0)
		for _, s := range []string{"a", "ab", "a.b", "ab.ba.a-b.0", "x--a"} {
			w.checkShow(t, p, s, whole(s, 0))
		}
		w.checkShow(t, p, "ab.\u00FC.ab", whole("ab.xn--tda.ab", 1))
	}
	for _, limit := range []float64{0, 1e38, inf} {
		for _, s := range []string{"A_B", "\x00\x7F", " ", "A.xn"} {
			w.checkShow(t, w.made(t, 0, limit), s, whole(s, 0))
		}
	}
}

// Costs below the limit, just it, and above it.
func TestShowAtTheLimit(t *testing.T) {
	w := houseWorld(t)
	below, above := float64(math.Nextafter32(float32(tenth), 0)), float64(math.Nextafter32(float32(tenth), 1))
	for limit, in := range map[float64]bool{0: false, below: false, tenth: true, 0.1: true, above: true, 1: true, inf: true, 0.0999999999: true, 0.1 - 1e-8: false} {
		if in {
			w.checkAll(t, settings(), limit, "\u00E0", whole("\u00E0", 0))
		} else {
			w.checkAll(t, settings(), limit, "\u00E0", whole("xn--0ca", 1))
		}
	}
	w.checkAll(t, settings(), 0.2, "\u00FC\u00FC", whole("\u00FC\u00FC", 0))
	w.checkAll(t, settings(), 0.25, "\u00FC-\u00FC", whole("xn----dhab", 1))
	w.checkAll(t, settings(), 0.45, "\u00FC-\u00FC", whole("xn----dhab", 1)) // the cost is more than the limit by some 3e-9
	w.checkAll(t, settings(), 0.5, "\u00FC-\u00FC", whole("\u00FC-\u00FC", 0))
	w.checkAll(t, settings(), 8, "b\u0431", whole("b\u0431", 0))
	w.checkAll(t, settings(), 7.9999999, "b\u0431", whole("b\u0431", 0)) // 8 in binary32
	w.checkAll(t, settings(), 7.999, "b\u0431", whole("xn--b-btb", 1))
	w.checkAll(t, settings(), 0, "\u0431", whole("\u0431", 0))
	s := written(t, "scales", free+"weight E0 9007199254740992\nweight E1 1\nweight E2 1e39\nweight E3 1e-46\n")
	for _, c := range []struct {
		limit float64
		s, a  string
	}{
		{1 << 53, "\u00E0\u00E1\u00E1", "\u00E0\u00E1\u00E1"}, {1 << 53, "\u00E1\u00E1\u00E0", "xn--0caba"}, {1<<53 + 2, "\u00E1\u00E1\u00E0", "xn--0caba"}, {1<<53 + 1<<30, "\u00E1\u00E1\u00E0", "\u00E1\u00E1\u00E0"},
		{math.MaxFloat32, "\u00E2", "xn--2ca"}, {1e39, "\u00E2", "\u00E2"}, {0, "\u00E3\u00E3", "\u00E3\u00E3"}, {1e-46, "\u00E1", "xn--1ca"},
	} {
		n := 0
		if c.a != c.s {
			n = 1
		}
		s.checkAll(t, settings(), c.limit, c.s, whole(c.a, n))
	}
}

func TestShowOfSeveral(t *testing.T) {
	w := houseWorld(t)
	const s = "\u00FC.\u0430.\u0431.a.\u4E00.a\u4E00.b\u0431.\u05D0"
	for _, c := range []struct {
		limit float64
		text  string
		n     int
	}{
		{0, "xn--tda.xn--80a.\u0431.a.xn--4gq.xn--a-0n6a.xn--b-btb.\u05D0", 5},
		{0.01, "xn--tda.xn--80a.\u0431.a.\u4E00.xn--a-0n6a.xn--b-btb.\u05D0", 4},
		{0.1, "\u00FC.xn--80a.\u0431.a.\u4E00.xn--a-0n6a.xn--b-btb.\u05D0", 3},
		{0.5, "\u00FC.xn--80a.\u0431.a.\u4E00.xn--a-0n6a.xn--b-btb.\u05D0", 3},
		{0.51, "\u00FC.xn--80a.\u0431.a.\u4E00.xn--a-0n6a.xn--b-btb.\u05D0", 3}, // in binary32 it is less than the cost
		{0.52, "\u00FC.xn--80a.\u0431.a.\u4E00.a\u4E00.xn--b-btb.\u05D0", 2},
		{8, "\u00FC.xn--80a.\u0431.a.\u4E00.a\u4E00.b\u0431.\u05D0", 1},
		{inf, s, 0},
	} {
		w.checkAll(t, settings(), c.limit, s, whole(c.text, c.n))
	}
	// each label by itself: those beside it cost nothing, and two that are alike are counted twice
	w.checkAll(t, settings(), 0, "a.\u0431.\u03B1.\u4E00\u4E00", whole("a.\u0431.\u03B1.xn--4gqa", 1))
	w.checkAll(t, settings(), 0, "\u0430.\u0430.a.\u0430", whole("xn--80a.xn--80a.a.xn--80a", 3))
	w.checkAll(t, settings(), 0.25, many(5, "\u00FC\u00FC.")+"\u00FC\u00FC\u00FC", whole(many(5, "\u00FC\u00FC.")+"xn--tdaaa", 1))
}

// However a name is written, it is shown in one way.
func TestShowOfOtherWays(t *testing.T) {
	w := houseWorld(t)
	for _, s := range []string{"b\u00FCcher.\u0430.de", "B\u00DCCHER.\u0410.DE", "bu\u0308cher.\u0430.de", "BU\u0308CHER\u3002\u0410\uFF0Ede", "xn--bcher-kva.xn--80a.de", "XN--BCHER-KVA.Xn--80A.dE", "b\u00AD\u00FCcher.\u0430\u00AD.d\u00ADe"} {
		w.checkAll(t, settings(), 0, s, whole("xn--bcher-kva.xn--80a.de", 2))
		w.checkAll(t, settings(), 1, s, whole("b\u00FCcher.xn--80a.de", 1))
		w.checkAll(t, settings(), inf, s, whole("b\u00FCcher.\u0430.de", 0))
	}
	// one that comes to three, of which one is a full stop; Hangul; Deviations, which stay
	w.checkAll(t, settings(), 0, "a\u33C7\u00FC", whole("aco.xn--tda", 1))
	w.checkAll(t, settings(), 0.01, "\u1100\u1161.xn--o39a", whole("\uAC00.\uAC00", 0))
	w.checkAll(t, settings(), 0, "\u1100\u1161.xn--o39a", whole("xn--o39a.xn--o39a", 2))
	w.checkAll(t, settings(), 0, "\u03C3\u03C2.\u0431", whole("\u03C3\u03C2.\u0431", 0))
	w.checkAll(t, settings(), 0, "fa\u00DF.de", whole("fa\u00DF.de", 0))
	w.checkAll(t, settings(), 0, "\u1E9E", whole("\u1E9E", 0))
	w.checkAll(t, settings(), 0, "\u0628\u200C\u0628", whole("\u0628\u200C\u0628", 0))
	w.checkAll(t, settings(), 0, "\u00E0", whole("xn--0ca", 1))
	// the cost is that of what stands in the label, not of what stood in the text
	m := written(t, "marks", free+"class 300 230\ndecomp E0 61 300\nweight 300 1\nweight 41 1\n")
	m.checkAll(t, settings(), 0, "a\u0300", whole("\u00E0", 0))
	m.checkAll(t, settings(), 0, "b\u0300", whole("xn--b-vbb", 1))
	m.checkAll(t, settings(), 1, "b\u0300", whole("b\u0300", 0))
}

// cheap has one letter that costs nothing, of which long labels are shorter as they are carried, and others that cost.
const cheap = free + "weight 80..4DFF 1\n"

// Texts whose mixed form is just as long as it may be, and one byte longer. What is dear is longer as it is carried, what is
// cheap in letters, so that neither form of the whole is.
func TestShowTooLong(t *testing.T) {
	t.Parallel()
	w := written(t, "cheap", cheap)
	const dear, long = 1000, 2700
	ahead, carried := many(dear, "\u00FC."), many(dear, "xn--tda.")
	middle := many(long, "\u4E00")
	shortest := len(carried) + len(middle) + len(".")
	for _, flags := range settings() {
		for _, more := range []int{-1, 0, 1, 2, 100} {
			fill := many(api.MaxText-shortest+more, "a")
			s := ahead + middle + "." + fill
			p := w.made(t, flags, 0)
			a, set := w.engines[flags].ToASCII(s)
			if flags&api.VerifyDNS != 0 {
				w.checkShow(t, p, s, shown{"", 0, api.BadLabel | api.BadDomain})
				continue
			}
			if set != 0 || len(a) > 16000 || len(s) > 16000 {
				t.Fatalf("%d: %d bytes, %d as it is carried, %d", flags, len(s), len(a), set)
			}
			want := whole(carried+middle+"."+fill, dear)
			if len(want.text) != api.MaxText+more {
				t.Fatalf("%d bytes", len(want.text))
			}
			if more > 0 {
				want = whole(a, dear+1)
			}
			w.checkShow(t, p, s, want)
			w.checkShow(t, p, a, want)
			w.checkShow(t, w.made(t, flags, 1), s, whole(s, 0))
			w.checkShow(t, w.made(t, flags, inf), a, whole(s, 0))
		}
	}
}

// The bound alone: what is carried has as many bytes as may be, or the letters have.
func TestShowLong(t *testing.T) {
	w := written(t, "cheap", cheap)
	p, all := w.made(t, 0, 0), w.made(t, 0, inf)
	s, a := many(2047, "\u00FC.")+many(8, "a"), many(2047, "xn--tda.")+many(8, "a")
	w.checkShow(t, p, s, whole(a, 2047))
	w.checkShow(t, all, s, whole(s, 0))
	w.checkShow(t, all, a, whole(s, 0))
	s = many(5461, "\u4E00") + "a"
	if len(s) != api.MaxText {
		t.Fatalf("%d bytes", len(s))
	}
	w.checkShow(t, p, s, whole(s, 0))
	w.checkShow(t, all, s, whole(s, 0))
	a, _ = p.ToASCII(s)
	w.checkShow(t, p, a, whole(s, 0))
	dear := strings.Replace(s, "a", "\u00FC", 1)
	w.checkShow(t, p, dear, shown{"", 0, api.TooLong})
	w.checkShow(t, p, many(api.MaxText, "a"), whole(many(api.MaxText, "a"), 0))
	w.checkShow(t, p, many(api.MaxText+1, "a"), shown{"", 0, api.TooLong})
	// the mixed form is too long with a label of each kind beside it: two that are cheap, one of ASCII
	s = many(1000, "\u00FC.") + many(2000, "\u4E00") + ".b." + many(1000, "\u4E00")
	a, _ = p.ToASCII(s)
	w.checkShow(t, p, s, whole(a, 1002))
}
