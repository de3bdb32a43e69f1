package suffix_test

import (
	"math/rand/v2"
	"slices"
	"strings"
	"testing"

	"endonym/api"
	"endonym/canon"
	"endonym/idna"
	"endonym/suffix"
	"endonym/table"
)

// All short texts of the signs that rules and lines are made of.
func TestShortTexts(t *testing.T) {
	for _, c := range []struct {
		w      *world
		pieces []string
		most   int
		flags  []int
	}{
		{houseWorld(t), []string{"!", "*", ".", "a", " "}, 6, []int{0, api.Strict}},
		{houseWorld(t), []string{"!", "*", ".", "a", "B", "\n", "#"}, 5, []int{0, api.Strict}},
		{houseWorld(t), []string{"a", "A", ".", "\n", "\t", "\r", "#"}, 5, []int{0, api.Strict}},
		{houseWorld(t), []string{"!", "*.", "\u00FC", "xn--tda", ".", "\n", "_", "\u00AD", "\u3002", "\xFF"}, 4, []int{0, api.Strict, api.Transitional}},
		{oddWorld(t), []string{"!", "*", ".", "c", "\n", "$", "_", "(", "Z", "\u00DF"}, 4, []int{0, api.Strict, api.Flags}},
		{oddWorld(t), []string{"!", "*", ".", "_"}, 6, []int{0, api.VerifyDNS}},
		{baseWorld(t), []string{"!", "*", ".", "a", "B", "\n"}, 5, []int{0, api.Strict}},
	} {
		taken := 0
		for _, s := range allTexts(c.pieces, c.most) {
			for _, flags := range c.flags {
				if r, l := holdText(t, c.w.engines[flags], s); len(l) > 0 {
					checkAgain(t, c.w.engines[flags], r)
					taken++
				}
			}
		}
		if taken < 50 {
			t.Errorf("21.1: %s: of %q only %d were taken", c.w.name, c.pieces, taken)
		}
	}
}

// checkAgain is 21.5, where the engine has no Transitional: with a newline behind the last line and without one.
func checkAgain(t *testing.T, e *idna.Engine, r *suffix.Rules) {
	t.Helper()
	if e.Has(api.Transitional) {
		return
	}
	all := r.All()
	for _, end := range []string{"", "\n"} {
		s := strings.Join(all, "\n") + end
		if len(s) > api.MaxTable {
			continue
		}
		again, at, no := suffix.Parse(e, s)
		if again == nil || at != (api.Place{}) || no != api.OK || !slices.Equal(again.All(), all) || again.Len() != r.Len() {
			t.Fatalf("21.5: flags %d: %q read again: %v, %d", e.Flags(), all[:min(len(all), 20)], at, int(no))
		}
	}
}

// words are all rules of up to three labels of two letters.
func words() []string {
	names := allNames([]string{"a", "b"}, 3)
	l := append([]string{"*"}, names...)
	for _, s := range names {
		l = append(l, "*."+s)
		if strings.Contains(s, ".") {
			l = append(l, "!"+s)
		}
	}
	return l
}

// All rules of few labels, one, two and three at a time, and all short names.
func TestFewRules(t *testing.T) {
	e := free(t)
	names := allNames([]string{"a", "b", "c"}, 4)
	more := slices.Concat([]string{""}, names, allNames([]string{"a", "B", "", "*", "!a", "!"}, 4))
	l := words()
	hold := func(names []string, rules ...string) {
		r, own := holdText(t, e, strings.Join(rules, "\n"))
		for _, s := range names {
			holdName(t, r, own, s)
		}
	}
	hold(more)
	for i, a := range l {
		hold(more, a)
		for j, b := range l[:i] {
			hold(names, a, b)
			for _, c := range l[:j] {
				if (i*7+j)%5 == 0 {
					hold(names[3:], c, a, b)
				}
			}
		}
	}
}

// drawnLabel is one that many others are, or one that nearly is.
func drawnLabel(draw *rand.Rand) string {
	if draw.IntN(12) > 0 {
		return oneOf(draw, []string{"a", "b", "c", "com", "ck", "www"})
	}
	return oneOf(draw, []string{"ab", "a-b", "co", "xcom", "0", "xn--tda", "xn--bcher-kva", "1a", "xn--3xab", many(63, "a")})
}

func drawnName(draw *rand.Rand, most int) string {
	var l []string
	for range 1 + draw.IntN(most) {
		l = append(l, drawnLabel(draw))
	}
	return strings.Join(l, ".")
}

func drawnRule(draw *rand.Rand) string {
	switch draw.IntN(10) {
	case 0, 1, 2:
		return "!" + drawnName(draw, 4)
	case 3, 4, 5:
		return "*." + drawnName(draw, 4)
	case 6:
		if draw.IntN(4) == 0 {
			return "*"
		}
	}
	return drawnName(draw, 5)
}

// drawnRules are rules that are taken together, so many lines at most.
func drawnRules(draw *rand.Rand, most int) []string {
	var l []string
	for range draw.IntN(most + 1) {
		s := drawnRule(draw)
		if !slices.Contains(l, s) && (s[0] != '!' || strings.Contains(s, ".")) {
			l = append(l, s)
		}
	}
	return l
}

// asked is a name for some rules: often one that a rule holds of, or that is not quite so.
func asked(draw *rand.Rand, rules []string) string {
	s := drawnName(draw, 6)
	if len(rules) > 0 && draw.IntN(3) > 0 {
		own := strings.TrimPrefix(oneOf(draw, rules), "!")
		if behind, ok := strings.CutPrefix(own, "*"); ok && draw.IntN(4) > 0 {
			own = drawnLabel(draw) + behind
		}
		s = drawnName(draw, 3) + "." + own
		for draw.IntN(3) == 0 {
			_, s, _ = strings.Cut(s, ".")
		}
	}
	switch draw.IntN(16) {
	case 0:
		return strings.ToUpper(s)
	case 1:
		return strings.ToUpper(s[:len(s)/2]) + s[len(s)/2:]
	case 2:
		return s + "."
	case 3:
		return "." + s
	case 4:
		return strings.Replace(s, ".", "..", 1)
	case 5:
		return oneOf(draw, []string{"!", "*", "*.", "!a.", "x", "\xFF.", "\u212A"}) + s
	case 6:
		return strings.Replace(s, ".", oneOf(draw, []string{".!", ".*.", ".*", "\u3002", "-", "x."}), 1)
	case 7:
		return strings.Replace(s, "c", oneOf(draw, []string{"C", "\u0441", "cc", "\xE3", "#", "\x03"}), 1)
	}
	return s
}

// 21.3 and 21.4 (W11) of drawn rules and names; the lines in other orders.
func TestDrawnNames(t *testing.T) {
	e := free(t)
	draw := rand.New(rand.NewPCG(21, 1))
	several, spared := 0, 0
	for range 1500 {
		lines := drawnRules(draw, []int{3, 10, 40, 200}[draw.IntN(4)])
		r, l := holdText(t, e, strings.Join(lines, "\n"))
		mixed := slices.Clone(lines)
		draw.Shuffle(len(mixed), func(i, j int) { mixed[i], mixed[j] = mixed[j], mixed[i] })
		other := read(t, e, "# other\n"+strings.Join(mixed, " \n\n")+"\n")
		for range 60 {
			s := asked(draw, lines)
			holdName(t, r, l, s)
			checkOne(t, r, other, s)
			labels := cut(s)
			plain, exceptions := 0, 0
			for _, own := range l {
				switch {
				case !own.holds(labels):
				case own.exception:
					exceptions++
				default:
					plain++
				}
			}
			several += plain / 2
			spared += exceptions
		}
	}
	if several < 3000 || spared < 3000 {
		t.Errorf("21.3: several rules held of only %d, exceptions of only %d", several, spared)
	}
}

// checkOne: the order of the lines does not matter.
func checkOne(t *testing.T, r, other *suffix.Rules, s string) {
	t.Helper()
	g, ok := r.Registrable(s)
	h, is := other.Registrable(s)
	if n, m := r.Suffix(s), other.Suffix(s); n != m || g != h || ok != is {
		t.Fatalf("21.4: %q: %d, %q, %t; the lines in another order: %d, %q, %t", some(s), n, g, ok, m, h, is)
	}
}

// 21.4: the lines in all orders, of rules that meet one another.
func TestAllOrders(t *testing.T) {
	e := free(t)
	names := allNames([]string{"a", "b", "c"}, 4)
	for _, lines := range [][]string{{"a", "b.a", "*.a", "!b.a"}, {"*", "*.b.a", "!c.b.a", "!b.a", "a.b.a"}, {"*.a", "!b.a", "*.b.a", "!a.b.a", "c.a.b.a"}} {
		want := read(t, e, strings.Join(lines, "\n"))
		orders(lines, func(mixed []string) {
			r := read(t, e, strings.Join(mixed, "\n"))
			if !slices.Equal(r.All(), want.All()) {
				t.Fatalf("21.2: %q: All: %q", mixed, r.All())
			}
			for _, s := range names {
				checkOne(t, want, r, s)
			}
		})
	}
}

// orders tells each order of l.
func orders(l []string, tell func([]string)) {
	if len(l) < 2 {
		tell(l)
		return
	}
	for i := range l {
		rest := slices.Delete(slices.Clone(l), i, i+1)
		orders(rest, func(behind []string) { tell(append([]string{l[i]}, behind...)) })
	}
}

// drawnText has lines of all kinds, most of them right.
func drawnText(draw *rand.Rand, pieces []string) string {
	var b strings.Builder
	wrong, last := draw.IntN(3) == 0, "a"
	for range draw.IntN(14) {
		b.WriteString(oneOf(draw, []string{"", "", "", " ", "\t", " \t "}))
		switch n := draw.IntN(12); {
		case n == 0:
		case n == 1 && wrong, n == 2:
			for range draw.IntN(7) {
				b.WriteString(oneOf(draw, pieces))
			}
		case n == 3 && wrong:
			b.WriteString(drawnRule(draw) + " " + drawnRule(draw))
		case n == 4 && wrong:
			b.WriteString(oneOf(draw, none))
		case n == 5:
			b.WriteString(strings.ToUpper(drawnRule(draw)))
		case n == 6 && wrong:
			b.WriteString(oneOf(draw, []string{last, strings.ToUpper(last)}))
		default:
			last = drawnRule(draw)
			if draw.IntN(3) > 0 {
				last += "." + oneOf(draw, []string{"q", "r", "s", "t", "u", "v", "w", "x", "y", "z"})
			}
			b.WriteString(last)
		}
		b.WriteString(oneOf(draw, []string{"", "", "", " ", "\r", "# x y", " # !", "#"}))
		if draw.IntN(60) == 0 {
			b.WriteString("#" + many(380+draw.IntN(40), "-"))
		}
		b.WriteString("\n")
	}
	s := b.String()
	if draw.IntN(2) == 0 {
		s = strings.TrimSuffix(s, "\n")
	}
	return s
}

// drawnWorld is a right table's: records are drawn, and each that makes it wrong is left out.
func drawnWorld(t *testing.T, draw *rand.Rand) *world {
	t.Helper()
	l, _, _ := table.Parse(base)
	pool := []rune{0x21, 0x2A, 0x23, 0x2C, 0x2D, 0x2E, 0x31, 0x41, 0x58, 0x5F, 0x61, 0x78, 0x6E, 0x80, 0xFC, 0x200C, 0x200D, 0x3002, 0x10FFFE}
	for c := range 8 + draw.IntN(8) {
		pool = append(pool, 0x300+rune(c))
	}
	one := func() rune { return pool[draw.IntN(len(pool))] }
	several := func(n int) []rune {
		var x []rune
		for range n {
			x = append(x, one())
		}
		return x
	}
	kinds := []int{api.KValid, api.KValid, api.KValid, api.KIgnored, api.KMapped, api.KMapped, api.KShift, api.KDeviation, api.KClass, api.KDecomp, api.KDecomp, api.KOpens, api.KBidi, api.KMark}
	for range 60 {
		c := int(one())
		r := api.Record{Kind: kinds[draw.IntN(len(kinds))], Lo: c, Hi: min(c+draw.IntN(4), api.MaxRune)}
		switch r.Kind {
		case api.KMapped:
			r.To = several(1 + draw.IntN(3))
		case api.KShift:
			r.N, r.To = 1+draw.IntN(2), []rune{one()}
		case api.KDeviation:
			r.Hi, r.To = r.Lo, several(draw.IntN(3))
		case api.KClass:
			r.N = []int{9, 220, 230}[draw.IntN(3)]
		case api.KDecomp, api.KOpens:
			r.Hi, r.To = r.Lo, several(2)
		case api.KBidi:
			r.N = draw.IntN(11)
		}
		if _, e := canon.Check(append(slices.Clone(l), r)); e == api.OK {
			l = append(l, r)
		}
	}
	return worldOf(t, "drawn", l)
}

// 21.1, 21.2 and 21.5 of drawn texts, over several tables and under all settings.
func TestDrawnTexts(t *testing.T) {
	draw := rand.New(rand.NewPCG(21, 2))
	worlds := []*world{houseWorld(t), oddWorld(t), baseWorld(t)}
	for range 40 {
		worlds = append(worlds, drawnWorld(t, draw))
	}
	pieces := []string{"!", "*", "*.", ".", "a", "b", "A", "X", "n", "xn--", "xn--tda", "1", "-", "_", ",", "\u00FC", "\u00AD", "\u3002", "\u0300", "\u0301", "\u0305", "\u0308", "\u200C", "\u0080", "\U0010FFFE", "\xFF", "(", "$", " "}
	refused := map[api.Errno]int{}
	taken := 0
	for i, w := range worlds {
		rounds := 500
		if i < 2 {
			rounds = 4000
		}
		for range rounds {
			e := w.engines[draw.IntN(64)]
			s := drawnText(draw, pieces)
			r, l := holdText(t, e, s)
			if r == nil {
				_, _, no := suffix.Parse(e, s)
				refused[no]++
				continue
			}
			checkAgain(t, e, r)
			for range 5 {
				holdName(t, r, l, asked(draw, l.texts()))
			}
			if len(l) > 1 {
				taken++
			}
		}
	}
	for _, no := range []api.Errno{api.ErrLong, api.ErrRule, api.ErrWord, api.ErrTwice} {
		if refused[no] < 200 {
			t.Errorf("21.1: the draw met %d only %d times", int(no), refused[no])
		}
	}
	if taken < 2000 {
		t.Errorf("21.1: only %d drawn texts were taken", taken)
	}
}

// 21.5 by hand, under all settings without Transitional.
func TestReadAgain(t *testing.T) {
	w := houseWorld(t)
	for _, e := range w.engines {
		for _, s := range []string{"", "*", "com", "com\n*.ck\n!www.ck\nB\u00FCcher.com", "\u33C7m\n*.\u212B\n!\u03C3.\u03C2\n\u0628\u200C\u0628", "XN--BCHER-KVA\n*.xn--3xab", rules(4096)} {
			r, _, no := suffix.Parse(e, s)
			if no != api.OK {
				t.Fatalf("21.1: flags %d: %q: %d", e.Flags(), some(s), int(no))
			}
			checkAgain(t, e, r)
		}
	}
	o := oddWorld(t)
	for _, e := range o.engines {
		checkAgain(t, e, read(t, e, "*\nc.*\n!!.c\n*$d\n**\n!*.*\n_a_\n*._c\n\u00FF.c"))
	}
}

// Rules that are kept in far more bytes than they are written in: all of them as long as a text may be, and longer.
func TestReadAgainLong(t *testing.T) {
	e := free(t)
	var b strings.Builder
	for i := range 655 { // each 400 bytes as it is kept, its newline too
		b.WriteString(many(49, "\u00FC.") + "n" + string(rune('a'+i/26)) + string(rune('a'+i%26)) + "-xyz\n")
	}
	s := b.String()
	r := read(t, e, s)
	if n := len(strings.Join(r.All(), "\n")); n < 262144-400 || n > 262144 {
		t.Fatalf("the test's own rules have %d bytes", n)
	}
	checkAgain(t, e, r)
	// as long as may be, without a newline at the end and with one
	short := 262144 - len(strings.Join(r.All(), "\n"))
	for _, c := range []struct {
		more int
		end  string
		want api.Errno
	}{{0, "", api.OK}, {1, "", api.ErrLong}, {-1, "\n", api.OK}, {0, "\n", api.ErrLong}} {
		whole := read(t, e, s+many(short-1+c.more, "q")).All()
		again, at, no := suffix.Parse(e, strings.Join(whole, "\n")+c.end)
		if no != c.want || c.want == api.OK && (!slices.Equal(again.All(), whole) || at != (api.Place{})) || c.want != api.OK && (again != nil || at != first) {
			t.Errorf("21.5: %d bytes more, %q behind: %v, %d", c.more, c.end, at, int(no))
		}
	}
}
