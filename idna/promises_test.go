package idna_test

import (
	"math/rand/v2"
	"slices"
	"strings"
	"sync"
	"testing"
	"unicode/utf8"
	"unsafe"

	"endonym/api"
	"endonym/house"
	"endonym/order"
	"endonym/table"
)

// 19.5 of texts by hand, under all settings without Transitional; some of them are near a bound.
func TestThereAndBack(t *testing.T) {
	for _, w := range []*world{houseWorld(t), freeWorld(t), baseWorld(t), written(t, "piled", piled)} {
		n := 0
		for _, s := range []string{"", ".", "a", "a.", "..", "FOO", "B\u00FCcher.Example", "xn--bcher-kva.de", "XN--FA-HIA", "\u03C3\u03C2", "xn--3xab", "\u1E9E", "a\u0302\u0300", "\u1E0B\u0323", "\u0628\u200C\u0628", "xn--ngba799q.a1", "\u05D01.a", "1a.\u05D0", "a_b", "ab--c", "-", "\u33C7", "a\u3002b", "\u00AD", "\u1100\u1161\u11A8", "\uAC00\u11A8", "\u0915\u094D\u200D\u0937", "xn--a-vbb", "xn--xn---3ra", "xn--z", "xn--", "xn-a", "\U00010401", "\u0500.\u040F\u0300", many(63, "a"), many(64, "a"), many(126, "a.") + "b", many(127, "a.") + "b", many(2000, "\u00FC."), many(50, "\u4E00"), many(20, "\uAC00\u4E00."), many(api.MaxText, "a"), many(1000, "xn--tda.") + "a"} {
			for flags := range 64 {
				if flags&api.Transitional != 0 || len(s) > 1000 && flags != 0 && flags != api.Strict {
					continue
				}
				if a, set := w.engines[flags].ToASCII(s); set == 0 {
					w.checkBack(t, s, flags, a)
					n++
				}
			}
		}
		if n < 200 {
			t.Errorf("19.5: %s: %d were taken", w.name, n)
		}
	}
	// with Transitional it is not promised: what came out of an xn-- label would be mapped the next time
	w := houseWorld(t)
	checkUnicode(t, w.engines[api.Transitional], "xn--3xa", "\u03C2", 0)
	checkASCII(t, w.engines[api.Transitional], "\u03C2", "xn--4xa", 0)
}

// 19.6 of texts by hand: what is refused with Strict, and what comes.
func TestFit(t *testing.T) {
	w := houseWorld(t)
	for _, s := range []string{"B\u00FCcher.Example", "a-b", "a1.2-3", "abc--d", "a--b", "\u03C2", "\u0628\u200C\u0628", "xn--3xa.xn--tda", "\uAC00.\u4E00\u4E01", "A\u030A.\u212B", many(63, "a"), many(126, "a.") + "b", "\u1E9E", "\u00FC-\u00FC", "x.n--a", "a\u3002b"} {
		a, set := w.engines[api.Strict].ToASCII(s)
		if set != 0 {
			t.Errorf("19.6: %q: %d", s, set)
			continue
		}
		w.checkFit(t, a)
	}
	for _, s := range []string{"", ".", "a.", ".a", "a..b", "-a", "a-", "ab--c", "a_b", "a b", "a\u0000", many(64, "a"), many(127, "a.") + "b", "xn--", "xn--abc-", "xn--z", "xn--a", "xn--a-vbb", "xn--xn---3ra", "\u0250", "xn--3ba", "xn--b\u00FC", "xn----eha"} {
		if a, set := w.engines[api.Strict].ToASCII(s); set == 0 || a != "" {
			t.Errorf("19.6: %q: %q, %d", s, a, set)
		}
	}
}

// alike are texts whose mapped code points are canonically alike to those of s, under both settings of Transitional.
func (w *world) alike(draw *rand.Rand, s string, transitional bool) []string {
	m := w.mapped(s, transitional)
	d := w.ordered(m)
	mixed := slices.Clone(d)
	for range 2 * len(mixed) { // neighbours of unlike classes, none of them 0
		i := draw.IntN(len(mixed))
		if i == 0 {
			continue
		}
		a, b := w.of(mixed[i-1]).class, w.of(mixed[i]).class
		if a != 0 && b != 0 && a != b {
			mixed[i-1], mixed[i] = mixed[i], mixed[i-1]
		}
	}
	cut := draw.IntN(len(d) + 1)
	half := slices.Concat(w.normal(d[:cut]), d[cut:])
	var ignored []rune
	for _, c := range []rune(s) {
		ignored = append(ignored, c)
		for _, i := range w.all {
			if w.of(i).status == api.Ignored && draw.IntN(8) == 0 {
				ignored = append(ignored, i)
			}
		}
	}
	var l []string
	for _, x := range [][]rune{m, d, w.normal(m), mixed, half, ignored, []rune(strings.ToUpper(s))} {
		if v := string(x); v != s && slices.Equal(w.ordered(w.mapped(v, transitional)), d) {
			l = append(l, v)
		}
	}
	return l
}

// 19.7: how a text was written is forgotten.
func TestForgets(t *testing.T) {
	t.Parallel()
	draw := rand.New(rand.NewPCG(19, 7))
	worlds := []*world{houseWorld(t), written(t, "piled", piled)}
	for range 100 {
		worlds = append(worlds, drawnWorld(t, draw))
	}
	n, wrong := 0, 0
	for k, w := range worlds {
		times := 30
		if k < 2 {
			times = 1000
		}
		for range times {
			s := w.text(draw)
			flags := draw.IntN(64)
			if !utf8.ValidString(s) {
				continue
			}
			labels, set := w.engines[flags].Process(s)
			for _, v := range w.alike(draw, s, flags&api.Transitional != 0) {
				l, e := w.engines[flags].Process(v)
				if e != set || !sameLabels(l, labels) {
					t.Fatalf("19.7: %s: %q and %q, flags %d: %q, %d and %q, %d", w.name, some(s), some(v), flags, some(joined(labels)), set, some(joined(l)), e)
				}
				n++
				if set != 0 {
					wrong++
				}
			}
		}
	}
	if n < 4000 || wrong < 1000 {
		t.Errorf("19.7: %d pairs, %d of them with errors", n, wrong)
	}
}

func TestForgetsByHand(t *testing.T) {
	w := houseWorld(t)
	for _, l := range [][]string{
		{"\u1EA7", "a\u0302\u0300", "\u00E2\u0300", "A\u0302\u0340", "\u1EA6", "\u00C2\u00AD\u0300"},
		{"\u1E0D\u0307", "d\u0323\u0307", "d\u0307\u0323", "\u1E0B\u0323", "D\u0307\u0323"},
		{"\uAC01", "\u1100\u1161\u11A8", "\uAC00\u11A8"},
		{"\u00E5.\u03CE", "\u212B\u3002\u2126\u0301", "a\u030A.\u03C9\u0301", "\uFF21\u030A\uFF0E\u038F"},
		{"xn--bcher-kva", "XN--BCHER-KVA", "xn\u00AD--bcher-kva"}, {"xn--z", "Xn--\u00ADZ"}, {"xn--\u00E0", "xn--a\u0300", "xn--A\u0340"},
		{"\u0308\u0301_", "\u0344_"}, {"\u05D0\u05B7a", "\uFB2Ea"}, {"a\u0323\u0300\u0250", "a\u0300\u0323\u0250", "\u00E0\u0323\u0250"},
	} {
		for flags := range 64 {
			labels, set := w.engines[flags].Process(l[0])
			for _, s := range l[1:] {
				checkProcess(t, w.engines[flags], s, labels, set)
			}
		}
		x, _ := order.NFD(w.d, w.mapped(l[0], false))
		for _, s := range l[1:] {
			if y, _ := order.NFD(w.d, w.mapped(s, false)); !slices.Equal(x, y) {
				t.Errorf("19.7: %q and %q are not alike", l[0], s)
			}
		}
	}
}

// turning is a label that runs from right to left and has no error under any setting, if there is one.
func (w *world) turning() (string, bool) {
	for _, c := range w.tame {
		s := string(c)
		l, set := w.engines[api.Strict].Process(s)
		_, other := w.engines[api.Flags].Process(s) // with Transitional it may be opened to a Deviation
		if set|other == 0 && strings.ContainsAny(w.directions(joined(l)), "ra") {
			return s, true
		}
	}
	return "", false
}

// 19.7: the errors of a label hang on the others by rtl alone (and by TooLong, as other tests have it).
func TestEachByItself(t *testing.T) {
	t.Parallel()
	draw := rand.New(rand.NewPCG(19, 8))
	worlds := []*world{houseWorld(t)}
	for range 150 {
		worlds = append(worlds, drawnWorld(t, draw))
	}
	turned, others := 0, 0
	for k, w := range worlds {
		times := 25
		if k == 0 {
			times = 1500
		}
		turn, can := w.turning()
		for range times {
			s, v, flags := w.label(draw), w.label(draw), draw.IntN(64)
			e := w.engines[flags]
			labels, set := e.Process(s + "." + v)
			both, other := e.Process(v + "." + s)
			first, a := e.Process(s)
			second, b := e.Process(v)
			rtl := slices.ContainsFunc(labels, func(x []rune) bool { return strings.ContainsAny(w.directions(string(x)), "ran") })
			if rtl && flags&api.CheckBidi != 0 {
				if !can {
					continue
				}
				_, a = e.Process(s + "." + turn)
				_, b = e.Process(turn + "." + v)
				turned++
			} else {
				others++
			}
			if set != other || set != a|b || !sameLabels(labels, slices.Concat(first, second)) || !sameLabels(both, slices.Concat(second, first)) {
				t.Fatalf("19.7: %s: %q, flags %d: %d; %q: %d; both: %d, %d", w.name, some(s), flags, a, some(v), b, set, other)
			}
		}
	}
	if turned < 400 || others < 2000 {
		t.Errorf("19.7: %d domains that run from right to left, %d others", turned, others)
	}
}

// 19.8 of texts by hand: all errors that a flag brings, and any flags less.
func TestFewerFlags(t *testing.T) {
	t.Parallel()
	w := houseWorld(t)
	four := []int{api.CheckBidi, api.CheckJoiners, api.UseSTD3, api.VerifyDNS}
	for _, s := range []string{"", "a", "a.", "\u05D0a", "\u05D0.1", "a\u200Cb", "a_b", "a_\u200C.\u05D0a.", "xn--z.1.\u05D0", "xn--a-zhc._", many(64, "a"), many(300, "a") + "_", "-a_", "xn--ab-j1t", "\u0250", "\xFF", many(api.MaxText+1, "a"), many(2100, "\u00FC."), many(2000, "_") + "\U0010FFFF", "B\u00FCcher.de"} {
		var of [64]told
		for flags := range of {
			of[flags] = w.ask(s, flags)
		}
		for flags := range of {
			for several := range 16 {
				less := flags
				for i, flag := range four {
					if several>>i&1 == 1 {
						less &^= flag
					}
				}
				checkFewer(t, s, flags, of[flags], less, of[less])
			}
		}
	}
}

// scribble writes over all that an answer has, its spare room too.
func scribble(l [][]rune) {
	for i := range l {
		x := l[i][:cap(l[i])]
		for k := range x {
			x[k] = -7
		}
	}
	l = l[:cap(l)]
	for i := range l {
		l[i] = []rune{-8}
	}
}

// What is told is its caller's own: no two lists share memory, nor do two answers.
func TestOwn(t *testing.T) {
	w := houseWorld(t)
	for _, s := range []string{"", ".", "a", "a.b.c", "ab.xn--fa-hia.", "xn--bcher-kva.xn--bcher-kva.xn--z.xn--", "\u00FC.\u1EA7.a\u0302\u0300", "\u33C7\u33C7a", "xn--z.b\u00FCcher.xn--4db", "...", many(100, "abc.xn--tda.")} {
		e := w.engines[0]
		l, set := e.Process(s)
		want := make([][]rune, len(l))
		for i, x := range l {
			want[i] = slices.Clone(x)
		}
		for i := range l { // each list, written over with its spare room, leaves the others as they are
			l, _ := e.Process(s)
			x := l[i][:cap(l[i])]
			for k := range x {
				x[k] = -7
			}
			for k := range l {
				if k != i && !slices.Equal(l[k], want[k]) {
					t.Errorf("19.2: the labels %d and %d of %q share memory", i, k, some(s))
				}
			}
		}
		u, _ := e.ToUnicode(s)
		a, _ := e.ToASCII(s)
		u, a = strings.Clone(u), strings.Clone(a)
		again, _ := e.Process(s)
		scribble(l)
		if !sameLabels(again, want) {
			t.Errorf("19.2: two answers of Process of %q share memory", some(s))
		}
		checkProcess(t, e, s, want, set)
		if v, _ := e.ToUnicode(s); v != u {
			t.Errorf("19.3: ToUnicode of %q: %q, then %q", some(s), u, v)
		}
		if b, _ := e.ToASCII(s); b != a {
			t.Errorf("19.4: ToASCII of %q: %q, then %q", some(s), a, b)
		}
	}
}

// A text that is told is new memory, also where it is the one that was handed in.
func TestOwnTexts(t *testing.T) {
	w := houseWorld(t)
	for _, s := range []string{"a", "a.b", "xn--z", "xn--tda", "\u00FC", "\xFF", "a\xC3", many(api.MaxText+1, "a"), "xn--" + many(9000, "a")} {
		for _, flags := range []int{0, api.Strict} {
			u, _ := w.engines[flags].ToUnicode(s)
			a, _ := w.engines[flags].ToASCII(s)
			if unsafe.StringData(u) == unsafe.StringData(s) || a != "" && unsafe.StringData(a) == unsafe.StringData(s) {
				t.Errorf("19: what is told of %q shares memory with it", some(s))
			}
		}
	}
}

// What is handed in is unchanged: the text, and what Data tells.
func TestUnchanged(t *testing.T) {
	w := houseWorld(t)
	bytes := []byte("xn--bcher-kva.B\u00FCcher.\u33C7a\u0300.xn--z.\u03C2")
	s := string(bytes)
	for _, e := range w.engines {
		e.Process(s)
		e.ToUnicode(s)
		e.ToASCII(s)
	}
	if s != string(bytes) {
		t.Errorf("19: the text is changed: %q", s)
	}
	for _, c := range w.all {
		f := w.of(c)
		if w.d.Status(c) != f.status || !slices.Equal(w.d.Mapping(c), f.to) || w.d.Class(c) != f.class || w.d.Bidi(c) != f.bidi || w.d.Join(c) != f.join || w.d.Mark(c) != f.mark || !slices.Equal(w.d.Full(c), f.full) {
			t.Errorf("19: Data tells something else of %X behind the calls", c)
		}
	}
	if !table.Same(w.l, house.Table()) {
		t.Error("19: the records are changed")
	}
}

// Nothing is kept from call to call, nor told by one table of another.
func TestNothingKept(t *testing.T) {
	valid := written(t, "valid", base+"valid 100\n")
	mapped := written(t, "mapped", base+"mapped 100 61 2E\n")
	ignored := written(t, "ignored", base+"ignored 100\n")
	opens := written(t, "opens", base+"opens 100 62\n")
	for range 3 {
		valid.check(t, fine("\u0100c", "\u0100c", "xn--c-lha"), same("xn-c"))
		mapped.check(t, fine("\u0100c", "a.c", "a.c"))
		ignored.check(t, fine("\u0100c", "c", "c"))
		opens.check(t, fine("\u0100c", "bc", "bc"))
		valid.check(t, domain{"\u0101", "\u0101", api.BadStatus, "", 0}, domain{"xn--z", "xn--z", api.BadPunycode, "", 0})
	}
}

// One engine may be asked by several at once: it is not written to.
func TestAtOnce(t *testing.T) {
	w := houseWorld(t)
	texts := []string{"B\u00FCcher.example", "xn--fa-hia.de", "\u05D0.1", "xn--z", "a_b", "\u33C7", "\xFF", many(70, "a"), "\u03C2.xn--3xa"}
	e := w.engines[api.Strict]
	var want []told
	for _, s := range texts {
		want = append(want, w.ask(s, api.Strict))
	}
	var group sync.WaitGroup
	for k := range 8 {
		group.Go(func() {
			for i := range 200 {
				n := (i + k) % len(texts)
				l, set := e.Process(texts[n])
				a, all := e.ToASCII(texts[n])
				if !sameLabels(l, want[n].labels) || set != want[n].set || a != want[n].a || all != want[n].all {
					t.Errorf("19: %q by one of several: %d, %q, %d", texts[n], set, a, all)
				}
			}
		})
	}
	group.Wait()
}

// W3: a text that is no UTF-8 has the one error BadEncoding, and ToUnicode answers it as it is.
func TestBadBytesAreTold(t *testing.T) {
	draw := rand.New(rand.NewPCG(19, 3))
	w := houseWorld(t)
	n := 0
	for range 3000 {
		b := []byte(w.text(draw))
		for range 1 + draw.IntN(3) {
			b = slices.Insert(b, draw.IntN(len(b)+1), byte(draw.IntN(256)))
		}
		s := string(b)
		if utf8.ValidString(s) {
			continue
		}
		n++
		flags := draw.IntN(64)
		checkProcess(t, w.engines[flags], s, nil, api.BadEncoding)
		checkUnicode(t, w.engines[flags], s, s, api.BadEncoding)
		checkASCII(t, w.engines[flags], s, "", api.BadEncoding)
	}
	if n < 1000 {
		t.Errorf("W3: %d texts", n)
	}
}
