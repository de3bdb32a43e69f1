package book_test

import (
	"fmt"
	"math"
	"slices"
	"strconv"
	"testing"
	"unsafe"

	"endonym/api"
	"endonym/book"
	"endonym/house"
	"endonym/ucd"
)

var done = told{}

func TestExamples(t *testing.T) {
	w := houseWorld(t)
	w.begun(t, api.Strict).run(t, step{adds(1, "B\u00FCcher.de"), named("xn--bcher-kva.de")}, step{adds(2, "b\u00FCcher.de"), none(api.ErrTaken)}, step{adds(2, "xn--bcher-kva.de"), none(api.ErrTaken)})
	w.begun(t, api.Strict).run(t, step{adds(1, "cat"), named("cat")}, step{adds(2, "\u0441\u0430\u0442"), named("xn--80a7ae")}, step{adds(1, "\u0441a\u0442"), none(api.ErrAlike)})
	p := w.begun(t, api.Strict)
	p.run(t, step{adds(1, "cat"), named("cat")}, step{drops(2, "cat"), none(api.ErrTaken)}, step{drops(1, "dog"), none(api.ErrNone)}, step{moves("cat", 1, 3), done}, step{finds("CAT"), one(entry(3, "cat", "cat"))})
	p.run(t, step{adds(1, "a_b"), none(api.ErrName)}, step{adds(1, ""), none(api.ErrName)})
}

// 24.1

// wrongFlags are outside 0 to 63, or have Transitional: alone, or with others.
func wrongFlags() []int {
	l := []int{math.MinInt, math.MinInt + 47, -1 << 32, -64, -63, -17, -16, -1, 64, 65, 80, 127, 128, 1 << 32, 1<<32 + 1, math.MaxInt}
	for flags := range 64 {
		if flags&api.Transitional != 0 {
			l = append(l, flags)
		}
	}
	return l
}

func TestNew(t *testing.T) {
	d := house.Data()
	refuse := func(d *ucd.Data, flags int) {
		if b, e := book.New(d, flags); b != nil || e != api.ErrArg {
			t.Errorf("24.1: New of Data %t with %d: %t, %v", d != nil, flags, b != nil, e)
		}
	}
	for _, flags := range wrongFlags() {
		refuse(d, flags)
		refuse(nil, flags)
	}
	for _, flags := range settings() {
		refuse(nil, flags)
		b, e := book.New(d, flags)
		if b == nil || e != api.OK {
			t.Fatalf("24.1: New with %d: %v", flags, e)
		}
		if l := b.List(); len(l) != 0 || b.Len() != 0 || b.Flags() != flags {
			t.Errorf("24.1: a new book with %d: %v, %d, %d", flags, l, b.Len(), b.Flags())
		}
		for _, s := range []string{"a", "b\u00FCcher.de"} {
			if x, e := b.Find(s); x != (api.Entry{}) || e != api.ErrNone {
				t.Errorf("24.1: a new book has %v, %v", x, e)
			}
			if l, e := b.Alike(s); len(l) != 0 || e != api.OK {
				t.Errorf("24.1: a new book has %v, %v", l, e)
			}
		}
	}
	if len(settings()) != 32 {
		t.Errorf("%d settings", len(settings()))
	}
}

// Books over one Data are each by themselves.
func TestSeveralBooks(t *testing.T) {
	w := houseWorld(t)
	p, q := w.begun(t, 0), w.begun(t, 0)
	p.run(t, step{adds(1, "cat"), named("cat")}, step{adds(1, "dog"), named("dog")})
	q.run(t, step{finds("cat"), none(api.ErrNone)}, step{adds(2, "c\u0430t"), named("xn--ct-7kc")}, step{drops(1, "dog"), none(api.ErrNone)})
	p.run(t, step{adds(2, "c\u0430t"), none(api.ErrAlike)}, step{finds("dog"), one(entry(1, "dog", "dog"))})
}

// A book answers as its engine does.
func TestEngine(t *testing.T) {
	w := houseWorld(t)
	texts := []string{"", ".", "B\u00FCcher.de", "xn--bcher-kva.DE", "a_b", "\u03C3\u03C2", "xn--3xab", "-a", "ab--c", "a.", "\u05D01.1", "a\u200Cb", "\xFF", "xn--z", "xn--xn---3ra", "\u0430\u3002de", many(64, "a"), many(254, "a"), many(16385, "a")}
	for _, flags := range settings() {
		p, e := w.begun(t, flags), w.engines[flags]
		p.b.Add(1, "cat")
		for flag := range 64 {
			if p.b.Has(flag) != e.Has(flag) || p.b.Flags() != flags {
				t.Errorf("24: Has(%d) of %d: %t", flag, flags, p.b.Has(flag))
			}
		}
		for _, s := range texts {
			l, set := p.b.Process(s)
			u, us := p.b.ToUnicode(s)
			a, as := p.b.ToASCII(s)
			el, eset := e.Process(s)
			eu, eus := e.ToUnicode(s)
			ea, eas := e.ToASCII(s)
			if set != eset || us != eus || as != eas || u != eu || a != ea || !slices.EqualFunc(l, el, slices.Equal[[]rune]) {
				t.Errorf("24: flags %d, %q: %q, %d, %q, %d, %d", flags, some(s), some(u), us, some(a), as, set)
			}
		}
	}
}

// 24.2 to 24.4: what is refused as no name

// state is all that a book tells of itself, and of some texts.
func (p *pair) state(texts ...string) string {
	s := fmt.Sprint(p.b.Len(), p.b.List())
	for _, text := range texts {
		s += fmt.Sprint(asked(p.b, finds(text)), asked(p.b, alikes(text)))
	}
	return s
}

// checkNoName: each call that is handed s tells ErrName and nothing else, and nothing is changed.
func (p *pair) checkNoName(t *testing.T, s string, texts ...string) {
	t.Helper()
	was := p.state(texts...)
	for kind := range kinds {
		for _, owner := range []int{0, 1, 2} {
			c := call{kind: kind, s: s, from: owner}
			if kind == move {
				c.to = 3 - owner
			}
			if a := asked(p.b, c); !a.is(none(api.ErrName)) {
				t.Errorf("24.2: %s, flags %d: call %d of %q: %v", p.w.name, p.flags, kind, some(s), a)
			}
		}
	}
	if p.state(texts...) != was {
		t.Errorf("24.5: %s, flags %d: %q, refused, has changed something", p.w.name, p.flags, some(s))
	}
}

type bad struct {
	flags int
	s     string
	set   api.Errs
}

var over = many(2000, "a") + "\U0010FFFF" // there is no Punycode for it

// wrong are texts with errors of each kind but BadDot, which no text comes to.
func wrong() []bad {
	return []bad{
		{api.Strict, "\xC3", api.BadEncoding}, {0, "a.\xFF", api.BadEncoding}, {0, many(16385, "a"), api.TooLong}, {0, many(5000, "\u00FC."), api.TooLong}, {api.Strict, "xn--" + many(9000, "a"), api.TooLong},
		{0, "xn--a-vbb", api.NotNFC}, {api.CheckHyphens, "-a", api.BadHyphen}, {0, "xn--xn---3ra", api.BadPrefix}, {0, "\u0300", api.BadMark}, {0, "\u0250", api.BadStatus}, {api.UseSTD3, "a_", api.BadSTD3}, {api.CheckJoiners, "a\u200Cb", api.BadJoiner}, {api.CheckBidi, "\u05D0a", api.BadBidi},
		{0, "xn--z", api.BadPunycode}, {0, "xn--", api.BadPlain}, {0, over, api.BadOverflow | api.BadStatus}, {api.VerifyDNS, "a.", api.BadLabel}, {api.VerifyDNS, "", api.BadLabel | api.BadDomain}, {api.VerifyDNS, many(126, "a.") + "bb", api.BadDomain},
		{api.Strict, "\u00FC.a_b.\u05D0a.\u0430", api.BadSTD3 | api.BadBidi}, {api.Strict, "cat.a_b", api.BadSTD3},
	}
}

func TestWrongTexts(t *testing.T) {
	w := houseWorld(t)
	all := api.Errs(0)
	for _, c := range wrong() {
		p := w.begun(t, c.flags)
		if a, set := p.b.ToASCII(c.s); a != "" || set != c.set {
			t.Fatalf("19: flags %d, %q: %q, %d, want %d", c.flags, some(c.s), some(a), set, c.set)
		}
		all |= c.set
		p.checkNoName(t, c.s)
		p.run(t, step{adds(1, "cat"), named("cat")}, step{adds(2, "dog"), named("dog")})
		p.checkNoName(t, c.s, "cat", "dog", "d0g", "c\u0430t")
	}
	if all|api.BadDot != 1<<16-1 {
		t.Errorf("%b are asked", all)
	}
	f := written(t, "free", free).begun(t, 0)
	f.checkNoName(t, over)
	f.checkNoName(t, many(2047, "\u00FC.")+many(9, "a"))
}

// The empty text, and texts of which nothing is left, whether the engine refuses them or not.
func TestEmptyTexts(t *testing.T) {
	w := houseWorld(t)
	for _, flags := range settings() {
		p := w.begun(t, flags)
		p.run(t, step{adds(1, "cat"), named("cat")})
		for _, s := range []string{"", "\u00AD", "\u200B\uFE0F\u00AD"} {
			p.checkNoName(t, s, "cat")
		}
		if flags&api.VerifyDNS == 0 {
			p.run(t, step{adds(2, "."), named(".")}, step{adds(2, "\u3002."), named("..")}, step{adds(3, "a."), named("a.")}, step{adds(4, "a"), named("a")})
		} else {
			p.checkNoName(t, ".", "cat")
		}
	}
}

// long has letters that look like many, and one that opens to many.
const long = free + "looks 61 62 62 62 62 62 62 62 62 62 62 62 62 62 62 62 62 62 62 62 62 62 62 62 62\nclass 300 230\ndecomp E0 41 300\ndecomp E1 E0 300\ndecomp E2 E1 300\ndecomp E3 E2 300\ndecomp E4 E3 300\ndecomp E5 E4 300\ndecomp E6 E5 300\ndecomp E7 E6 300\ndecomp E8 E7 300\ndecomp E9 E8 300\ndecomp EA E9 300\ndecomp EB EA 300\ndecomp EC EB 300\ndecomp ED EC 300\ndecomp EE ED 300\ndecomp EF EE 300\nlooks 63 EF\n"

// Shown forms that package looks takes, just takes, and takes no more.
func TestTooLongForLooks(t *testing.T) {
	t.Parallel()
	w := written(t, "long", long)
	for _, flags := range []int{0, api.CheckHyphens | api.CheckBidi | api.CheckJoiners | api.UseSTD3} {
		p := w.begun(t, flags)
		taken := []string{"a", many(2730, "a") + many(16, "x"), many(3855, "\u00EF") + "x", many(16384, "x"), many(16384, "c"), many(3855, "c") + "x"}
		for i, s := range taken {
			if _, e := p.b.Add(1, s); e != api.OK || p.b.Len() != i+1 {
				t.Fatalf("24.2: Add of %d bytes, %q: %v", len(s), some(s), e)
			}
		}
		// The bound is asked of what letters look like, and not of what that opens to.
		if l, e := p.b.Alike(taken[2]); len(l) != 2 || e != api.OK || l[0].Name != taken[5] || l[1].Shown != taken[2] {
			t.Errorf("24.4: Alike of what opens to 65,536: %d, %v", len(l), e)
		}
		p.b.Add(1, "y")
		for _, s := range []string{many(2731, "a"), many(2730, "a") + many(17, "x"), many(3856, "\u00EF"), many(3855, "\u00EF") + "xx", many(16384, "a")} {
			p.checkNoName(t, s, "y")
			if a, set := p.b.ToASCII(s); set == 0 {
				p.checkNoName(t, a, "y")
			}
		}
	}
}

// 24.2

// Ways to write one name: as it came, as it is carried, as it is shown, and in between.
var ways = []string{"B\u00FCcher.\u041E\u0431.de", "b\u00FCcher.\u043E\u0431.de", "xn--bcher-kva.xn--90az.de", "XN--BCHER-KVA.\u043E\u0431.DE", "b\u00FCcher.xn--90az.de", "Bu\u0308cher\uFF0E\u041E\u0431\u3002\uFF44e"}

func TestTaken(t *testing.T) {
	w := written(t, "house with a wide letter", house.Text()+"mapped FF44 64\n")
	x := entry(1, "xn--bcher-kva.xn--90az.de", "b\u00FCcher.\u043E\u0431.de")
	for _, flags := range settings() {
		for _, first := range ways {
			p := w.begun(t, flags)
			if a, e := p.b.Add(1, first); a != x.Name || e != api.OK {
				t.Fatalf("24.2: Add of %q: %q, %v", first, a, e)
			}
			for _, s := range ways {
				for _, owner := range []int{1, 2, 0} {
					if a, e := p.b.Add(owner, s); a != "" || e != api.ErrTaken {
						t.Errorf("24.2: Add of %q behind %q: %q, %v", s, first, a, e)
					}
				}
				if a, e := p.b.Find(s); a != x || e != api.OK {
					t.Errorf("24.4: Find of %q behind %q: %v, %v", s, first, a, e)
				}
				if l, e := p.b.Alike(s); !slices.Equal(l, []api.Entry{x}) || e != api.OK {
					t.Errorf("24.4: Alike of %q behind %q: %v, %v", s, first, l, e)
				}
				if e := p.b.Move(s, 1, 2); e != api.OK {
					t.Errorf("24.3: Move of %q behind %q: %v", s, first, e)
				}
				if e := p.b.Move(s, 2, 1); e != api.OK {
					t.Errorf("24.3: Move of %q back behind %q: %v", s, first, e)
				}
			}
		}
	}
	for _, last := range ways {
		p := w.begun(t, 0)
		p.b.Add(1, ways[0])
		if e := p.b.Drop(1, last); e != api.OK || p.b.Len() != 0 {
			t.Errorf("24.3: Drop of %q: %v", last, e)
		}
	}
}

// filled has so many entries of owner 7.
func (w *world) filled(t *testing.T, n int) *book.Book {
	t.Helper()
	b, _ := book.New(w.d, 0)
	for i := range n {
		if _, e := b.Add(7, "m"+strconv.Itoa(i)); e != api.OK || b.Len() != i+1 {
			t.Fatalf("24.2: Add %d: %v", i, e)
		}
	}
	return b
}

func checkAdd(t *testing.T, b *book.Book, owner int, s, want string, e api.Errno) {
	t.Helper()
	n := b.Len()
	if want != "" {
		n++
	}
	if a, no := b.Add(owner, s); a != want || no != e || b.Len() != n {
		t.Errorf("24.2: %d entries: Add(%d, %q): %q, %v, want %q, %v", n, owner, some(s), a, no, want, e)
	}
}

func TestFull(t *testing.T) {
	w := houseWorld(t)
	b := w.filled(t, 4095)
	refused := func() {
		t.Helper()
		was := b.List()
		checkAdd(t, b, 7, "m0", "", api.ErrTaken)
		checkAdd(t, b, 8, "M0", "", api.ErrTaken)
		for _, s := range []string{"\xFF", "", "xn--"} {
			(&pair{plain{w, 0, nil}, b}).checkNoName(t, s, "m0")
		}
		if !slices.Equal(b.List(), was) {
			t.Error("24.5: refused, and not as it was")
		}
	}
	refused()
	checkAdd(t, b, 8, "mo", "", api.ErrAlike)
	checkAdd(t, b, 8, "cat", "cat", api.OK)
	refused()
	checkAdd(t, b, 8, "mo", "", api.ErrMany) // it looks like another's
	checkAdd(t, b, 7, "mo", "", api.ErrMany) // it looks like the owner's own
	checkAdd(t, b, 8, "dog", "", api.ErrMany)
	checkAdd(t, b, 8, "cat", "", api.ErrTaken)
	if e := b.Move("m17", 7, 9); e != api.OK || b.Len() != 4096 {
		t.Errorf("24.3: Move in a full book: %v", e)
	}
	if b.Drop(8, "cat") != api.OK || b.Len() != 4095 {
		t.Errorf("24.3: Drop of a full book: %d", b.Len())
	}
	checkAdd(t, b, 8, "mo", "", api.ErrAlike)
	checkAdd(t, b, 7, "mo", "mo", api.OK)
	checkAdd(t, b, 7, "dog", "", api.ErrMany)
	if l, e := b.Alike("m\u043E"); len(l) != 2 || l[0].Name != "m0" || l[1].Name != "mo" || e != api.OK {
		t.Errorf("24.4: Alike in a full book: %v, %v", l, e)
	}
}

// Names that look like another one's, and like the owner's own.
func TestAlike(t *testing.T) {
	w := houseWorld(t)
	for _, c := range [][]string{
		{"cat", "c\u0430t", "\u0441at", "\u0441\u0430t"}, {"dog", "d0g", "d\u043Eg", "d\u03BFg"}, {"\u00EB", "\u0451"}, {"a.l", "a.1", "\u0430.\u0142", "\u0430.1"}, {"\u0456i", "\u0131i", "i\u0131", "ii"}, {"x.de", "\u0445.de", "\u0445.d\u0435"}, {"\u06CC", "\u0649"}, {"\u00E0.com", "\u0430\u0300.com", "\u0430\u0300.c0m"},
	} {
		for i, first := range c {
			p := w.begun(t, 0)
			a, _ := p.b.ToASCII(first)
			p.run(t, step{adds(1, first), named(a)}, step{adds(2, "y"), named("y")})
			for j, s := range c {
				if i != j {
					p.run(t, step{adds(2, s), none(api.ErrAlike)}, step{adds(-1, s), none(api.ErrAlike)}, step{adds(0, s), none(api.ErrAlike)})
				}
			}
			for j, s := range c {
				if i != j {
					a, _ := p.b.ToASCII(s)
					p.run(t, step{adds(1, s), named(a)}, step{adds(2, s), none(api.ErrTaken)})
				}
			}
			if l, _ := p.b.Alike(first); len(l) != len(c) || p.b.Len() != len(c)+1 {
				t.Errorf("24.4: Alike of %q: %v", first, l)
			}
		}
	}
}

// Names that are near one another, and do not look alike.
func TestUnlike(t *testing.T) {
	w := houseWorld(t)
	p := w.begun(t, 0)
	for i, s := range []string{"cat", "cat.", ".cat", "c.at", "ca.t", "cats", "ca", "c\u0430\u0442", "\u00E4", "a", "\u0430b", "a-b", "tac", "xn-80a", "c\u00E0t", "y.cat", "cat.y"} {
		a, _ := p.b.ToASCII(s)
		p.run(t, step{adds(i, s), named(a)})
	}
	// It is the shown form that looks like something, and not what is carried.
	p.run(t, step{adds(50, "\u043C\u0430"), named("xn--80ax")}, step{adds(51, "\u0445n--80ax"), named("xn--n--80ax-ukg")}, step{adds(52, "xn--n--80ax-ukg"), none(api.ErrTaken)})
}

// Of tables of our own: what looks like a full stop, like what opens, like two, and like what looks like something else.
func TestTwistedLooks(t *testing.T) {
	w := written(t, "twists", free+"looks B7 78\nlooks 2E 78\nclass 300..301 230\nclass 302 220\ndecomp E0 61 300\nlooks 100 E0\nlooks 101 62 63\nlooks 102 101\nlooks 103 300\nlooks 104 302\n")
	for _, c := range []struct {
		a, b  string
		alike bool
	}{
		{"a\u00B7b", "a.b", true}, {"axb", "a.b", true}, {"a..b", "a.xb", true}, {"a", "a.", false}, {"\u0100", "\u00E0", true}, {"\u0101", "bc", true}, {"\u0102", "\u0101", false}, {"\u0102", "bc", false}, {"a\u0103", "\u00E0", true}, {"a\u0103\u0104", "\u00E0\u0302", true}, {"a\u0104\u0103", "\u00E0\u0302", true}, {"a\u0103\u0301", "a\u0301\u0103", false}, {"cb", "\u0101", false},
	} {
		for _, s := range [][]string{{c.a, c.b}, {c.b, c.a}} {
			p := w.begun(t, 0)
			first, _ := p.b.ToASCII(s[0])
			second, _ := p.b.ToASCII(s[1])
			want := named(second)
			if c.alike {
				want = none(api.ErrAlike)
			}
			p.run(t, step{adds(1, s[0]), named(first)}, step{adds(2, s[1]), want})
		}
	}
}

// Owners are any ints.
func TestOwners(t *testing.T) {
	w := houseWorld(t)
	all := []int{0, 1, -1, 2, math.MinInt, math.MaxInt, math.MinInt + 1, 1 << 32, -1 << 32, 1<<32 + 1}
	for i, a := range all {
		for _, b := range all {
			p := w.begun(t, api.Strict)
			p.run(t, step{adds(a, "cat"), named("cat")}, step{finds("cat"), one(entry(a, "cat", "cat"))}, step{adds(b, "cat"), none(api.ErrTaken)})
			if a == b {
				p.run(t, step{adds(b, "c\u0430t"), named("xn--ct-7kc")}, step{moves("cat", a, b), done}, step{drops(b, "cat"), done})
				continue
			}
			other := all[(i+3)%len(all)]
			p.run(t, step{adds(b, "c\u0430t"), none(api.ErrAlike)}, step{drops(b, "cat"), none(api.ErrTaken)}, step{moves("cat", b, a), none(api.ErrTaken)}, step{moves("cat", b, b), none(api.ErrTaken)}, step{moves("cat", a, b), done}, step{finds("cat"), one(entry(b, "cat", "cat"))}, step{drops(a, "cat"), none(api.ErrTaken)}, step{drops(b, "cat"), done}, step{adds(other, "c\u0430t"), named("xn--ct-7kc")})
		}
	}
}

// 24.3

func TestDrop(t *testing.T) {
	p := houseWorld(t).begun(t, api.Strict)
	p.run(t,
		step{drops(1, "cat"), none(api.ErrNone)}, step{adds(1, "cat"), named("cat")}, step{drops(2, "cat"), none(api.ErrTaken)}, step{drops(1, "c\u0430t"), none(api.ErrNone)}, step{drops(1, "_"), none(api.ErrName)},
		step{drops(1, "Cat"), done}, step{drops(1, "cat"), none(api.ErrNone)}, step{drops(2, "cat"), none(api.ErrNone)}, step{finds("cat"), none(api.ErrNone)}, step{alikes("cat"), several()},
		step{adds(2, "cat"), named("cat")}, step{drops(1, "cat"), none(api.ErrTaken)}, step{adds(1, "c\u0430t"), none(api.ErrAlike)}, step{drops(2, "cat"), done}, step{adds(1, "c\u0430t"), named("xn--ct-7kc")}, step{adds(2, "cat"), none(api.ErrAlike)},
		// of several that look alike each one alone
		step{adds(1, "\u0441at"), named("xn--at-nmc")}, step{adds(1, "cat"), named("cat")}, step{drops(1, "c\u0430t"), done}, step{finds("c\u0430t"), none(api.ErrNone)}, step{finds("cat"), one(entry(1, "cat", "cat"))}, step{adds(2, "c\u0430t"), none(api.ErrAlike)},
		step{drops(1, "cat"), done}, step{adds(2, "c\u0430t"), none(api.ErrAlike)}, step{drops(1, "xn--at-nmc"), done}, step{adds(2, "c\u0430t"), named("xn--ct-7kc")}, step{drops(1, "c\u0430t"), none(api.ErrTaken)}, step{drops(2, "c\u0430t"), done},
	)
	if p.b.Len() != 0 {
		t.Errorf("24.3: %d are left", p.b.Len())
	}
}

func TestMove(t *testing.T) {
	p := houseWorld(t).begun(t, api.Strict)
	p.run(t,
		step{moves("cat", 1, 2), none(api.ErrNone)}, step{moves("cat", 1, 1), none(api.ErrNone)}, step{moves("_", 1, 2), none(api.ErrName)},
		step{adds(1, "cat"), named("cat")}, step{moves("cat", 2, 1), none(api.ErrTaken)}, step{moves("cat", 2, 3), none(api.ErrTaken)}, step{moves("cat", 2, 2), none(api.ErrTaken)}, step{moves("c\u0430t", 1, 2), none(api.ErrNone)},
		// to who it is already; the entry itself is no hindrance
		step{moves("cat", 1, 1), done}, step{finds("cat"), one(entry(1, "cat", "cat"))}, step{moves("Cat", 1, 2), done}, step{finds("cat"), one(entry(2, "cat", "cat"))}, step{moves("cat", 1, 2), none(api.ErrTaken)}, step{moves("cat", 2, 1), done},
		// while another entry of the owner looks like it
		step{adds(1, "c\u0430t"), named("xn--ct-7kc")}, step{moves("cat", 1, 2), none(api.ErrAlike)}, step{moves("c\u0430t", 1, 2), none(api.ErrAlike)}, step{moves("cat", 2, 1), none(api.ErrTaken)}, step{moves("cat", 1, 1), done}, step{moves("c\u0430t", 1, 1), done}, step{finds("cat"), one(entry(1, "cat", "cat"))},
		step{adds(1, "\u0441at"), named("xn--at-nmc")}, step{moves("cat", 1, 2), none(api.ErrAlike)}, step{drops(1, "\u0441at"), done}, step{moves("cat", 1, 2), none(api.ErrAlike)}, step{drops(1, "c\u0430t"), done}, step{moves("cat", 1, 2), done}, step{adds(1, "c\u0430t"), none(api.ErrAlike)},
		// what was moved is its new owner's
		step{drops(1, "cat"), none(api.ErrTaken)}, step{adds(2, "c\u0430t"), named("xn--ct-7kc")}, step{alikes("cat"), several(entry(2, "cat", "cat"), entry(2, "xn--ct-7kc", "c\u0430t"))}, step{moves("cat", 2, 1), none(api.ErrAlike)}, step{moves("cat", 2, 2), done},
		// what looks unlike is moved, whoever has others
		step{adds(1, "dog"), named("dog")}, step{moves("dog", 1, 2), done}, step{moves("dog", 2, 3), done}, step{drops(3, "dog"), done},
	)
}

// 24.4

func TestFindAndAlike(t *testing.T) {
	p := houseWorld(t).begun(t, api.Strict)
	x := []api.Entry{entry(1, "b.dog", "b.dog"), entry(1, "b.d0g", "b.d0g"), entry(1, "b.xn--dg-fmc", "b.d\u043Eg"), entry(1, "xn--90a.dog", "\u0431.dog"), entry(2, "dog", "dog")}
	p.run(t, step{adds(1, "b.dog"), named("b.dog")}, step{adds(1, "b.d\u043Eg"), named("b.xn--dg-fmc")}, step{adds(1, "b.D0G"), named("b.d0g")}, step{adds(2, "dog"), named("dog")}, step{adds(1, "\u0431.dog"), named("xn--90a.dog")},
		step{finds("dog"), one(x[4])}, step{finds("B.xn--dg-fmc"), one(x[2])}, step{finds("b.d\u041Eg"), one(x[2])}, step{finds("b.d\u03BFg"), none(api.ErrNone)}, step{finds("_"), none(api.ErrName)}, step{finds("g"), none(api.ErrNone)},
		// of what is there, and of what is not, in List's order
		step{alikes("dog"), several(x[4])}, step{alikes("d\u03BFg"), several(x[4])}, step{alikes("b.dog"), several(x[1], x[0], x[2])}, step{alikes("b.d\u043Eg"), several(x[1], x[0], x[2])}, step{alikes("b.d\u03BFg"), several(x[1], x[0], x[2])}, step{alikes("b.xn--dg-jbc"), several(x[1], x[0], x[2])}, step{alikes("\u0431.dog"), several(x[3])},
		step{alikes("cat"), several()}, step{alikes("b."), none(api.ErrName)}, step{alikes("b"), several()},
		step{drops(1, "b.dog"), done}, step{alikes("b.dog"), several(x[1], x[2])})
}

func TestList(t *testing.T) {
	inOrder := []string{
		".", "a.", "b.", "\x00", "0", "1", "@", "[", "_", "`", "A", "a", "A.A", "A.a", "a.A", "a.a", "a.a.a", "z.a", "a-b",
		"AA", "Aa", "aA", "aa", "A.aa", "a.AA", "Ab", "ab", "B", "b", "a.B", "a.b", "C.B", "c.b", "xn--tda", "Z", "z", "{", "\x7F",
	}
	b, _ := book.New(written(t, "free", free).d, 0)
	var want []api.Entry
	for i, s := range inOrder {
		want = append(want, entry(i, s, s))
		if s == "xn--tda" {
			want[i].Shown = "\u00FC"
		}
	}
	check := func(want []api.Entry) {
		t.Helper()
		for range 2 {
			if l := b.List(); !slices.Equal(l, want) || b.Len() != len(want) {
				t.Errorf("24.4: List: %v, want %v", l, want)
			}
		}
	}
	check(nil)
	for _, stride := range []int{7, 11, 5, len(inOrder) - 1, 1} { // each comes to all places
		for i := range inOrder {
			at := i * stride % len(inOrder)
			checkAdd(t, b, at, inOrder[at], inOrder[at], api.OK)
		}
		check(want)
		for i := range inOrder {
			at := (i*stride + 3) % len(inOrder)
			if e := b.Drop(at, inOrder[at]); e != api.OK {
				t.Errorf("24.3: Drop of %q: %v", inOrder[at], e)
			}
		}
		check(nil)
	}
}

// What is told is its caller's own; what is handed in is not kept.
func TestMemory(t *testing.T) {
	p := houseWorld(t).begun(t, api.Strict)
	text := []byte("c\u0430t")
	p.b.Add(1, unsafe.String(&text[0], len(text)))
	copy(text, "dogs")
	p.b.Add(1, "cat")
	want := []api.Entry{entry(1, "cat", "cat"), entry(1, "xn--ct-7kc", "c\u0430t")}
	for range 3 {
		l := p.b.List()
		alike, _ := p.b.Alike("cat")
		if !slices.Equal(l, want) || !slices.Equal(alike, want) {
			t.Fatalf("24.4: List %v, Alike %v", l, alike)
		}
		for i := range l {
			l[i], alike[i] = entry(9, "x", "y"), entry(8, "y", "x")
		}
		_ = append(l[:0], entry(7, "z", "z"))
		slices.Reverse(l)
		if x, _ := p.b.Find("cat"); x != want[0] {
			t.Errorf("24.4: Find: %v", x)
		}
		checkAdd(t, p.b, 2, "\u0441at", "", api.ErrAlike)
	}
	l := p.b.List()
	p.b.Move("cat", 1, 1)
	p.b.Drop(1, "cat")
	p.b.Move("c\u0430t", 1, 5)
	if !slices.Equal(l, want) {
		t.Errorf("24.4: what was told has changed: %v", l)
	}
}

// As many names as a book may have, all of which look alike.
func TestManyAlike(t *testing.T) {
	b, _ := book.New(written(t, "two", base+"looks 62 61\n").d, 0)
	for i := range 4096 {
		s := []byte("aaaaaaaaaaaa")
		for at := range s {
			s[at] += byte(i >> at & 1)
		}
		checkAdd(t, b, -3, string(s), string(s), api.OK)
	}
	l := b.List()
	if a, e := b.Alike("abaabbabbbab"); !slices.Equal(a, l) || len(a) != 4096 || e != api.OK {
		t.Errorf("24.4: %d of 4,096 look alike, %v", len(a), e)
	}
	for i, x := range l {
		last := i == len(l)-1
		if e := b.Move(x.Name, -3, 3); (e == api.OK) != last || !last && e != api.ErrAlike {
			t.Fatalf("24.3: Move of %q, %d ahead of the last: %v", x.Name, len(l)-1-i, e)
		}
		if last {
			break
		}
		if a, _ := b.Alike("a"); len(a) != 0 {
			t.Fatalf("24.4: Alike of what is shorter: %v", a)
		}
		if e := b.Drop(-3, x.Name); e != api.OK {
			t.Fatalf("24.3: Drop of %q: %v", x.Name, e)
		}
		if i%512 == 0 {
			if a, _ := b.Alike(x.Name); !slices.Equal(a, l[i+1:]) {
				t.Fatalf("24.4: behind %d Drops %d look alike", i+1, len(a))
			}
		}
	}
	checkAdd(t, b, -3, "aaaaaaaaaaaa", "", api.ErrAlike)
	checkAdd(t, b, 3, "aaaaaaaaaaaa", "aaaaaaaaaaaa", api.OK)
}
