package book_test

import (
	"math"
	"math/rand/v2"
	"slices"
	"strings"
	"testing"

	"endonym/api"
	"endonym/looks"
)

// worlds are the house, tables of these tests, and some that are drawn.
func worlds(t *testing.T, draw *rand.Rand, drawn int) []*world {
	t.Helper()
	l := []*world{houseWorld(t), written(t, "free", free), written(t, "cases", base+"valid 41..5A\nlooks 41 61\nlooks 42 62\nlooks 62 61\nlooks 30 2E\n")}
	for range drawn {
		l = append(l, drawnWorld(t, draw))
	}
	return l
}

// texts are some to be asked for together: each beside what looks like it, and beside other ways to write it.
func (w *world) texts(t *testing.T, draw *rand.Rand, flags, n int) []string {
	t.Helper()
	var l []string
	s, crowd := w.likely(t, draw, flags), draw.IntN(2)
	for len(l) < n {
		if crowd == 0 {
			s = w.likely(t, draw, flags)
		}
		l = append(l, s, w.relook(draw, s), w.relook(draw, s))
		for range 2 {
			l = append(l, w.rewrite(t, draw, flags, l[draw.IntN(len(l))]))
		}
	}
	return l
}

// likely is a text that is refused less often than others.
func (w *world) likely(t *testing.T, draw *rand.Rand, flags int) string {
	t.Helper()
	s := w.text(draw)
	for range draw.IntN(6) {
		if _, _, ok := w.form(t, flags, s); ok {
			break
		}
		s = w.text(draw)
	}
	return s
}

func drawnFlags(draw *rand.Rand) int {
	if draw.IntN(2) == 0 {
		return 0
	}
	all := settings()
	return all[draw.IntN(len(all))]
}

// drawnCall is often one of the owner of what is there.
func (p *pair) drawnCall(draw *rand.Rand, texts []string, owners []int) call {
	c := call{[]int{add, add, add, add, drop, move, find, alike, alike}[draw.IntN(9)], texts[draw.IntN(len(texts))], owners[draw.IntN(len(owners))], 0}
	if len(p.l) > 0 && c.kind != add && draw.IntN(2) == 0 {
		x := p.l[draw.IntN(len(p.l))]
		c.s, c.from = []string{x.Name, x.Shown}[draw.IntN(2)], x.Owner
	}
	if c.kind == move {
		c.to = owners[draw.IntN(len(owners))]
	}
	if c.kind == find || c.kind == alike {
		c.from = 0
	}
	return c
}

// checkApart is W9, by the entries that the book tells.
func (p *pair) checkApart(t *testing.T) {
	t.Helper()
	l := p.b.List()
	for i, x := range l {
		for _, y := range l[:i] {
			if x.Name == y.Name || x.Owner != y.Owner && p.w.looksLike(x.Shown, y.Shown) {
				t.Fatalf("24.5: %s, flags %d: %v and %v are in one book", p.w.name, p.flags, x, y)
			}
		}
		a, set := p.b.ToASCII(x.Shown)
		u, _ := p.b.ToUnicode(x.Name)
		if a != x.Name || u != x.Shown || set != 0 {
			t.Fatalf("24.2: %s, flags %d: %v is carried as %q, and shown as %q", p.w.name, p.flags, x, a, u)
		}
	}
}

// Rows of calls that are drawn: the book is what a plain list of them makes.
func TestDrawnRows(t *testing.T) {
	t.Parallel()
	draw := rand.New(rand.NewPCG(24, 1))
	owners := []int{1, 2, 1, 2, 3, 0, -1, math.MinInt, math.MaxInt}
	met := map[[2]int]int{}
	crowds := 0
	for k, w := range worlds(t, draw, 120) {
		rows := 15
		if k < 3 {
			rows = 120
		}
		for range rows {
			p := w.begun(t, drawnFlags(draw))
			texts := w.texts(t, draw, p.flags, 4+draw.IntN(16))
			own := owners[:1+draw.IntN(len(owners))]
			for range 20 + draw.IntN(60) {
				c := p.drawnCall(draw, texts, own)
				a := p.ask(t, c)
				met[[2]int{c.kind, int(a.e)}]++
				if len(a.l) > 2 {
					crowds++
				}
				if a.e != api.OK && draw.IntN(8) == 0 {
					p.probe(t, texts...)
				}
			}
			p.probe(t, texts...)
			p.checkApart(t)
		}
	}
	for _, c := range [][2]int{{add, 0}, {add, 240}, {add, 241}, {add, 242}, {drop, 0}, {drop, 240}, {drop, 241}, {drop, 243}, {move, 0}, {move, 240}, {move, 241}, {move, 242}, {move, 243}, {find, 0}, {find, 240}, {find, 243}, {alike, 0}, {alike, 240}} {
		if met[c] < 400 {
			t.Errorf("the draws are thin: %v came %d times", c, met[c])
		}
	}
	if crowds < 250 {
		t.Errorf("the draws are thin: only %d times three looked alike", crowds)
	}
}

// All rows of up to four calls of two owners and three texts, the first two of which look alike.
func TestAllRows(t *testing.T) {
	t.Parallel()
	w := houseWorld(t)
	var calls []call
	for _, s := range []string{"cat", "c\u0430t", "dog"} {
		for owner := range 2 {
			calls = append(calls, adds(owner, s), drops(owner, s), moves(s, owner, 0), moves(s, owner, 1))
		}
	}
	var walk func(row []call)
	walk = func(row []call) {
		p := w.begun(t, api.Strict)
		for _, c := range row {
			p.ask(t, c)
		}
		p.checkApart(t)
		p.probe(t, "cat", "\u0441at", "dog")
		if len(row) < 3 || len(row) == 3 && row[0].kind == add && row[1].kind == add {
			for _, c := range calls {
				walk(append(slices.Clone(row), c))
			}
		}
	}
	walk(nil)
}

// 24.6: of drawn texts, all that the engine carries alike.
func TestOneEntry(t *testing.T) {
	t.Parallel()
	draw := rand.New(rand.NewPCG(24, 2))
	same, other := 0, 0
	for k, w := range worlds(t, draw, 100) {
		n := 40
		if k < 3 {
			n = 400
		}
		for range n {
			p := w.begun(t, drawnFlags(draw))
			s := w.text(draw)
			name, e := p.b.Add(5, s)
			if e != api.OK {
				continue
			}
			for range 6 {
				way := w.rewrite(t, draw, p.flags, s)
				a, set := w.engines[p.flags].ToASCII(way)
				x, e := p.b.Find(way)
				switch again, no := p.b.Add(5, way); {
				case set != 0 || a == "":
				case a != name && (e != api.ErrNone || no != api.OK || again != a || p.b.Drop(5, way) != api.OK):
					t.Fatalf("24.6: %s, flags %d: %q and %q are two names: %v, %v, %q, %v", w.name, p.flags, s, way, x, e, again, no)
				case a != name:
					other++
				case e != api.OK || x.Name != name || x.Owner != 5 || no != api.ErrTaken || again != "":
					t.Fatalf("24.6: %s, flags %d: %q and %q are one name: %v, %v, %q, %v", w.name, p.flags, s, way, x, e, again, no)
				default:
					same++
				}
			}
			checkShown(t, p, s, name)
		}
	}
	if same < 5000 || other < 300 {
		t.Errorf("the draws are thin: %d, %d", same, other)
	}
}

// checkShown: what is shown of a name, and what is carried, is its one entry.
func checkShown(t *testing.T, p *pair, s, name string) {
	t.Helper()
	x, e := p.b.Find(s)
	if a, set := p.w.engines[p.flags].ToUnicode(name); x != entry(5, name, a) || e != api.OK || set != 0 {
		t.Fatalf("24.6: %s, flags %d: Find of %q: %v, %v", p.w.name, p.flags, s, x, e)
	}
	for _, way := range []string{x.Name, x.Shown} {
		if y, e := p.b.Find(way); y != x || e != api.OK {
			t.Fatalf("24.6: %s, flags %d: Find of %q: %v, %v, of %q %v", p.w.name, p.flags, way, y, e, s, x)
		}
		if l, e := p.b.Alike(way); !slices.Contains(l, x) || e != api.OK {
			t.Fatalf("24.4: %s, flags %d: Alike of %q: %v, %v", p.w.name, p.flags, way, l, e)
		}
		if _, e := p.b.Add(6, way); e != api.ErrTaken {
			t.Fatalf("24.6: %s, flags %d: Add of %q behind %q: %v", p.w.name, p.flags, way, s, e)
		}
	}
}

// Books of some hundred names, in which few look alike: entries are told by their order, and by what they look like.
func TestDrawnCrowds(t *testing.T) {
	t.Parallel()
	draw := rand.New(rand.NewPCG(24, 3))
	for _, w := range worlds(t, draw, 10) {
		p := w.begun(t, 0)
		var texts []string
		for range 300 {
			s := w.text(draw)
			if draw.IntN(3) == 0 && len(texts) > 0 {
				s = w.relook(draw, texts[draw.IntN(len(texts))])
			}
			texts = append(texts, s)
			p.ask(t, adds(draw.IntN(2), s))
		}
		for _, s := range texts {
			x, e := looks.Skeleton(w.d, []rune(s))
			if e == api.OK {
				p.probe(t, string(x), strings.ToUpper(s))
			}
		}
		for _, i := range draw.Perm(len(texts))[:150] {
			p.ask(t, drops(draw.IntN(2), texts[i]))
			p.ask(t, alikes(texts[i]))
		}
		p.checkApart(t)
	}
}
