package idna_test

import (
	"math/rand/v2"
	"slices"
	"strings"
	"testing"

	"endonym/api"
	"endonym/canon"
	"endonym/table"
)

// told is what the three calls tell of a text under one setting.
type told struct {
	labels       [][]rune
	u, a         string
	set, us, all api.Errs
}

func (w *world) ask(s string, flags int) told {
	var r told
	r.labels, r.set = w.engines[flags].Process(s)
	r.u, r.us = w.engines[flags].ToUnicode(s)
	r.a, r.all = w.engines[flags].ToASCII(s)
	return r
}

// hold holds what the calls tell against what the document says.
func (w *world) hold(t *testing.T, s string, flags int) told {
	t.Helper()
	r := w.ask(s, flags)
	l, set := w.process(s, flags)
	var labels [][]rune
	for _, x := range l {
		labels = append(labels, []rune(x))
	}
	u := strings.Join(l, ".")
	if set&unread != 0 {
		u = s
	}
	a, all := w.carry(l, set, flags)
	if r.set != set || !sameLabels(r.labels, labels) {
		t.Fatalf("19.2: %s: Process of %q, flags %d: %q, %d, want %q, %d", w.name, some(s), flags, some(joined(r.labels)), r.set, some(joined(labels)), set)
	}
	if r.u != u || r.us != set {
		t.Fatalf("19.3: %s: ToUnicode of %q, flags %d: %q, %d, want %q, %d", w.name, some(s), flags, some(r.u), r.us, some(u), set)
	}
	if r.a != a || r.all != all {
		t.Fatalf("19.4: %s: ToASCII of %q, flags %d: %q, %d, want %q, %d", w.name, some(s), flags, some(r.a), r.all, some(a), all)
	}
	return r
}

// holdAll holds a text under all 64 settings against the document, and against 19.5, 19.6 and 19.8.
func (w *world) holdAll(t *testing.T, s string) [64]told {
	t.Helper()
	var of [64]told
	for flags := range of {
		of[flags] = w.hold(t, s, flags)
		if of[flags].all == 0 {
			w.checkBack(t, s, flags, of[flags].a)
		}
	}
	if r := of[api.Strict]; r.all == 0 {
		w.checkFit(t, r.a)
	}
	for flags := range of {
		for _, flag := range []int{api.CheckBidi, api.CheckJoiners, api.UseSTD3, api.VerifyDNS} {
			checkFewer(t, s, flags, of[flags], flags&^flag, of[flags&^flag])
		}
	}
	return of
}

// checkBack is 19.5 of a text that is carried as a.
func (w *world) checkBack(t *testing.T, s string, flags int, a string) {
	t.Helper()
	if flags&api.Transitional != 0 {
		return
	}
	back := w.ask(a, flags)
	again := w.ask(back.u, flags)
	if back.us != 0 || back.all != 0 || back.a != a || again.all != 0 || again.a != a || again.us != 0 || again.u != back.u {
		t.Fatalf("19.5: %s: %q, flags %d, is carried as %q: that is told as %q, %d, and %q, %d; and the letters as %q, %d, and %q, %d", w.name, some(s), flags, some(a), some(back.u), back.us, some(back.a), back.all, some(again.u), again.us, some(again.a), again.all)
	}
}

// checkFit is 19.6 of what is carried with Strict.
func (w *world) checkFit(t *testing.T, a string) {
	t.Helper()
	if len(a) < 1 || len(a) > 253 {
		t.Fatalf("19.6: %s: %q has %d bytes", w.name, a, len(a))
	}
	for _, l := range strings.Split(a, ".") {
		if len(l) < 1 || len(l) > 63 || strings.Trim(l, "abcdefghijklmnopqrstuvwxyz0123456789-") != "" || badSTD3.MatchString(l) {
			t.Fatalf("19.6: %s: %q: the label %q", w.name, a, l)
		}
		behind, coded := strings.CutPrefix(l, "xn--")
		if strings.HasPrefix(l, "-") || strings.HasSuffix(l, "-") || !coded && len(l) > 3 && l[2:4] == "--" {
			t.Fatalf("19.6: %s: %q: the hyphens of %q", w.name, a, l)
		}
		if !coded {
			continue
		}
		x, ok := decoded(behind)
		status := func(c rune) bool { n := w.of(c).status; return n != api.Valid && n != api.Deviation }
		if !ok || isASCII(string(x)) || !slices.Equal(w.normal(x), x) || slices.ContainsFunc(x, status) {
			t.Fatalf("19.6: %s: %q: %q is read as %X, %t", w.name, a, l, x, ok)
		}
	}
}

// checkFewer is 19.8 of two settings, the second with one flag less.
func checkFewer(t *testing.T, s string, flags int, more told, less int, fewer told) {
	t.Helper()
	if fewer.set&^more.set != 0 || fewer.us&^more.us != 0 || fewer.all&^more.all != 0 {
		t.Fatalf("19.8: %q: flags %d: %d, %d, %d; flags %d: %d, %d, %d: an error comes", some(s), flags, more.set, more.us, more.all, less, fewer.set, fewer.us, fewer.all)
	}
	if !sameLabels(more.labels, fewer.labels) || more.u != fewer.u || more.all == 0 && more.a != fewer.a {
		t.Fatalf("19.8: %q: flags %d: %q, %q; flags %d: %q, %q", some(s), flags, some(more.u), some(more.a), less, some(fewer.u), some(fewer.a))
	}
}

// drawnWorld is a right table's: records of all that a domain is asked are drawn, and each that makes it wrong is left out.
func drawnWorld(t *testing.T, draw *rand.Rand) *world {
	t.Helper()
	l, _, _ := table.Parse(base)
	pool := []rune{0x20, 0x2C, 0x2D, 0x2E, 0x31, 0x41, 0x58, 0x5F, 0x61, 0x78, 0x6E, 0x80, 0x94D, 0x1100, 0x1161, 0xAC00, 0x200B, 0x200C, 0x200D, 0x10FFFE}
	for c := range 8 + draw.IntN(16) {
		pool = append(pool, 0x300+rune(c))
	}
	one := func() rune { return pool[draw.IntN(len(pool))] }
	several := func(n int) []rune {
		var x []rune
		for range n {
			x = append(x, one())
		}
		return x
	}
	kinds := []int{api.KValid, api.KValid, api.KValid, api.KValid, api.KIgnored, api.KMapped, api.KMapped, api.KShift, api.KDeviation, api.KDeviation, api.KClass, api.KClass, api.KDecomp, api.KDecomp, api.KDecomp, api.KOpens, api.KBidi, api.KBidi, api.KBidi, api.KJoin, api.KJoin, api.KMark}
	for range 90 {
		c := int(one())
		r := api.Record{Kind: kinds[draw.IntN(len(kinds))], Lo: c, Hi: min(c+draw.IntN(4), api.MaxRune)}
		switch r.Kind {
		case api.KMapped:
			r.To = several(1 + draw.IntN(3))
			if draw.IntN(6) == 0 {
				r.To = []rune("xn--")
			}
		case api.KShift:
			r.N, r.To = 1+draw.IntN(2), []rune{one()}
		case api.KDeviation:
			r.Hi, r.To = r.Lo, several(draw.IntN(3))
		case api.KClass:
			r.N = []int{9, 8, 10, 220, 230, 230}[draw.IntN(6)]
		case api.KDecomp, api.KOpens:
			r.Hi, r.To = r.Lo, several(2)
		case api.KBidi:
			r.N = draw.IntN(11)
		case api.KJoin:
			r.N = []int{api.JoinU, api.JoinR, api.JoinL, api.JoinD, api.JoinD, api.JoinC, api.JoinT, api.JoinT}[draw.IntN(8)]
		}
		if _, e := canon.Check(append(slices.Clone(l), r)); e == api.OK {
			l = append(l, r)
		}
	}
	draw.Shuffle(len(l), func(i, j int) { l[i], l[j] = l[j], l[i] })
	return worldOf(t, "drawn", l)
}

func pick(draw *rand.Rand, from []rune, most int) []rune {
	var x []rune
	for range draw.IntN(most + 1) {
		x = append(x, from[draw.IntN(len(from))])
	}
	return x
}

// label is a text without a full stop of its own, but where one comes by mapping.
func (w *world) label(draw *rand.Rand) string {
	tame := w.normal(pick(draw, w.tame, 5))
	puny := func(x []rune) string { p, _ := encoded(x); return "xn--" + p }
	switch draw.IntN(22) {
	case 0:
		return ""
	case 1, 2:
		return string(pick(draw, w.all, 5))
	case 3, 4, 5:
		return puny(tame)
	case 6:
		return puny(pick(draw, w.all, 4))
	case 7:
		return puny(pick(draw, w.tame, 4))
	case 15:
		return puny(w.ordered(tame))
	case 16:
		return puny(append([]rune("xn--"), tame...))
	case 8:
		return "xn--" + string(pick(draw, []rune("abcdefz0189-"), 6))
	case 9:
		return "xn--" + string(pick(draw, []rune("ab-_"), 3)) + "-"
	case 10:
		return "xn--" + string(tame)
	case 11:
		return strings.ToUpper(puny(tame))
	case 12:
		return string(slices.Insert(tame, draw.IntN(len(tame)+1), '-', '-'))
	case 13:
		return string(slices.Insert(tame, draw.IntN(len(tame)+1), rune(0x200C+draw.IntN(2))))
	case 14:
		return string(tame) + many(56+draw.IntN(10), "a")
	}
	return string(tame)
}

// text is some labels with full stops between; now and then there are many more behind them, or bytes that are no UTF-8.
func (w *world) text(draw *rand.Rand) string {
	var l []string
	for range 1 + draw.IntN(3) {
		l = append(l, w.label(draw))
	}
	s := strings.Join(l, ".")
	if draw.IntN(30) == 0 {
		s += many(76+draw.IntN(12), ".ab")
	}
	if draw.IntN(50) == 0 {
		at := draw.IntN(len(s) + 1)
		s = s[:at] + noUTF8[draw.IntN(len(noUTF8))] + s[at:]
	}
	return s
}

// Some texts are held under all settings, and more of them under some.
func TestDrawn(t *testing.T) {
	t.Parallel()
	draw := rand.New(rand.NewPCG(19, 5))
	worlds := []*world{houseWorld(t), baseWorld(t), freeWorld(t), written(t, "piled", piled)}
	for range 120 {
		worlds = append(worlds, drawnWorld(t, draw))
	}
	with, alone := map[api.Errs]int{}, map[api.Errs]int{}
	for k, w := range worlds {
		n := 8
		if k == 0 {
			n = 400
		}
		for range n {
			w.holdAll(t, w.text(draw))
		}
		for range 15 * n {
			s := w.text(draw)
			for _, flags := range []int{0, api.Strict, draw.IntN(64)} {
				r := w.hold(t, s, flags)
				if r.all == 0 {
					w.checkBack(t, s, flags, r.a)
				}
				if r.all == 0 && flags == api.Strict {
					w.checkFit(t, r.a)
				}
				alone[r.all]++
				for e := api.Errs(1); e <= api.BadDomain; e <<= 1 {
					with[e&r.all]++
				}
			}
		}
	}
	rare := api.TooLong | api.BadDot | api.BadOverflow // no drawn text is so long, and no label has a full stop
	for e := api.Errs(1); e <= api.BadDomain; e <<= 1 {
		if e&rare == 0 && (with[e] < 300 || alone[e] < 15) {
			t.Errorf("of the drawn texts %d have the error %d, %d of them alone", with[e], e, alone[e])
		}
	}
	if alone[0] < 5000 {
		t.Errorf("of the drawn texts nothing is wrong with %d", alone[0])
	}
}

// All short texts of some pieces: all settings, or a few.
func TestShort(t *testing.T) {
	t.Parallel()
	h := houseWorld(t)
	eachText([]string{"a", "-", ".", "_", "\u0300", "\u05D0", "1", "xn--", "\u00AD", "\u03C2", "\u00FC", "\u200C"}, 3, func(s string) { h.holdAll(t, s) })
	eachText([]string{"a", "xn--", "4db", ".", "-", "\u05D0", "1"}, 5, func(s string) {
		for _, flags := range []int{0, api.CheckBidi, api.Strict, api.Flags} {
			if r := h.hold(t, s, flags); r.all == 0 {
				h.checkBack(t, s, flags, r.a)
			}
		}
	})
	f := freeWorld(t)
	eachText([]string{"x", "n", "-", "X", "a", ".", "\u00FC"}, 5, func(s string) {
		for _, flags := range []int{0, api.CheckHyphens, api.Strict} {
			if r := f.hold(t, s, flags); r.all == 0 {
				f.checkBack(t, s, flags, r.a)
			}
		}
	})
}

// eachText goes through all texts of at most most pieces, the empty one first.
func eachText(pieces []string, most int, look func(s string)) {
	var longer func(s string, n int)
	longer = func(s string, n int) {
		look(s)
		if n < most {
			for _, p := range pieces {
				longer(s+p, n+1)
			}
		}
	}
	longer("", 0)
}
