package book_test

import (
	"math/rand/v2"
	"slices"
	"strconv"
	"strings"
	"testing"
	"unicode/utf8"

	"endonym/api"
	"endonym/book"
	"endonym/canon"
	"endonym/house"
	"endonym/idna"
	"endonym/looks"
	"endonym/name"
	"endonym/table"
	"endonym/ucd"
)

// The chapter word by word: a book as a plain list, whose entries are gone through one by one, and held against each other
// by looks.Alike; texts are read by an engine that no book made.

const base = "valid 61..7A\nvalid 30..39\nvalid 2D..2E\n"

// free has every code point as Valid.
const free = base + "valid 0..2C\nvalid 2F\nvalid 3A..60\nvalid 7B..10FFFF\n"

// world is a right table compiled, with an engine for each setting that a book takes.
type world struct {
	name    string
	d       *ucd.Data
	engines map[int]*idna.Engine
	alike   map[[2]string]bool // what looks tells of two shown forms
	all     []rune             // numbers that the table tells apart
	tame    []rune             // those of them that may stand in a label
	groups  map[string][]rune  // of these, what looks alike
}

func worldOf(t *testing.T, name string, l []api.Record) *world {
	t.Helper()
	d, at, e := ucd.Compile(l)
	if e != api.OK {
		t.Fatalf("%s: Compile: %d, %v", name, at, e)
	}
	w := &world{name: name, d: d, engines: map[int]*idna.Engine{}, alike: map[[2]string]bool{}, groups: map[string][]rune{}}
	for _, flags := range settings() {
		w.engines[flags], _ = idna.New(d, flags)
	}
	w.all = []rune{0x2D, 0x31, 0x41, 0x5F, 0x61, 0x62, 0x7F, 0x80, 0xAC00, 0x10FFFF}
	for _, r := range l {
		if r.Kind != api.KMix {
			w.all = append(append(w.all, rune(r.Lo), rune(r.Hi)), r.To...)
		}
	}
	slices.Sort(w.all)
	w.all = slices.DeleteFunc(slices.Compact(w.all), func(c rune) bool { return !utf8.ValidRune(c) || c == 0x2E })
	for _, c := range w.all {
		if n := d.Status(c); n == api.Valid || n == api.Deviation {
			w.tame = append(w.tame, c)
			x, _ := looks.Skeleton(d, []rune{c})
			w.groups[string(x)] = append(w.groups[string(x)], c)
		}
	}
	return w
}

func written(t *testing.T, name, s string) *world {
	t.Helper()
	l, at, e := table.Parse(s)
	if e != api.OK {
		t.Fatalf("%s: Parse: %v, %v", name, at, e)
	}
	return worldOf(t, name, l)
}

func houseWorld(t *testing.T) *world { t.Helper(); return worldOf(t, "house", house.Table()) }

// settings are the flags that a book takes.
func settings() []int {
	var l []int
	for flags := range 64 {
		if flags/16%2 == 0 {
			l = append(l, flags)
		}
	}
	return l
}

// form is a text's name and how it is shown; none of a text that is refused.
func (w *world) form(t *testing.T, flags int, s string) (carried, shown string, ok bool) {
	t.Helper()
	a, set := w.engines[flags].ToASCII(s)
	if set != 0 || a == "" {
		return "", "", false
	}
	u, set := w.engines[flags].ToUnicode(a)
	if set != 0 {
		t.Fatalf("19.5: %s: %q, flags %d, is carried as %q, and that is told as %q, %d", w.name, some(s), flags, some(a), some(u), set)
	}
	if _, e := looks.Skeleton(w.d, []rune(u)); e != api.OK {
		return "", "", false
	}
	return a, u, true
}

func (w *world) looksLike(a, b string) bool {
	ok, asked := w.alike[[2]string{a, b}]
	if !asked {
		ok, _ = looks.Alike(w.d, []rune(a), []rune(b))
		w.alike[[2]string{a, b}] = ok
	}
	return ok
}

// some is what of a text is worth showing.
func some(s string) string { return s[:min(len(s), 60)] }

func many(n int, s string) string { return strings.Repeat(s, n) }

// Kinds of calls that are handed a text.
const (
	add = iota
	drop
	move
	find
	alike
	kinds
)

// call is one of a book; from and to are owners, to of a Move alone.
type call struct {
	kind     int
	s        string
	from, to int
}

func adds(owner int, s string) call      { return call{add, s, owner, 0} }
func drops(owner int, s string) call     { return call{drop, s, owner, 0} }
func moves(s string, from, to int) call  { return call{move, s, from, to} }
func finds(s string) call                { return call{find, s, 0, 0} }
func alikes(s string) call               { return call{alike, s, 0, 0} }
func entry(n int, a, u string) api.Entry { return api.Entry{Owner: n, Name: a, Shown: u} }

// told is what a call tells; what it has not got is zero.
type told struct {
	name  string
	found api.Entry
	l     []api.Entry
	e     api.Errno
}

func (a told) is(b told) bool {
	return a.name == b.name && a.found == b.found && slices.Equal(a.l, b.l) && a.e == b.e
}

// String is what of it is worth showing.
func (a told) String() string {
	s := "{" + some(a.name) + " " + strconv.Itoa(int(a.e))
	for _, x := range append([]api.Entry{a.found}, a.l[:min(len(a.l), 40)]...) {
		s += " " + strconv.Itoa(x.Owner) + ":" + some(x.Name) + ":" + some(x.Shown)
	}
	return s + "}"
}

func none(e api.Errno) told       { return told{e: e} }
func named(s string) told         { return told{name: s} }
func one(x api.Entry) told        { return told{found: x} }
func several(l ...api.Entry) told { return told{l: l} }

// asked is what a book tells.
func asked(b *book.Book, c call) (a told) {
	switch c.kind {
	case add:
		a.name, a.e = b.Add(c.from, c.s)
	case drop:
		a.e = b.Drop(c.from, c.s)
	case move:
		a.e = b.Move(c.s, c.from, c.to)
	case find:
		a.found, a.e = b.Find(c.s)
	case alike:
		a.l, a.e = b.Alike(c.s)
	}
	return a
}

// plain is a book by the chapter's words.
type plain struct {
	w     *world
	flags int
	l     []api.Entry // in List's order
}

func (p *plain) told(t *testing.T, c call) told {
	t.Helper()
	a, u, ok := p.w.form(t, p.flags, c.s)
	if !ok {
		return none(api.ErrName)
	}
	at := slices.IndexFunc(p.l, func(x api.Entry) bool { return x.Name == a })
	switch {
	case c.kind == add:
		return p.add(entry(c.from, a, u), at)
	case c.kind == alike:
		return several(p.looking(u)...)
	case at < 0:
		return none(api.ErrNone)
	case c.kind == find:
		return one(p.l[at])
	case p.l[at].Owner != c.from:
		return none(api.ErrTaken)
	case c.kind == drop:
		p.l = slices.Delete(p.l, at, at+1)
	case p.hindered(at, u, c.to):
		return none(api.ErrAlike)
	default:
		p.l[at].Owner = c.to
	}
	return told{}
}

func (p *plain) add(x api.Entry, at int) told {
	switch {
	case at >= 0:
		return none(api.ErrTaken)
	case len(p.l) >= 4096:
		return none(api.ErrMany)
	case p.hindered(-1, x.Shown, x.Owner):
		return none(api.ErrAlike)
	}
	at = 0
	for at < len(p.l) && before(p.l[at], x) {
		at++
	}
	p.l = slices.Insert(p.l, at, x)
	return named(x.Name)
}

// hindered is whether an entry but that at a place, of an owner other than this, looks like a shown form.
func (p *plain) hindered(at int, shown string, owner int) bool {
	for i, x := range p.l {
		if i != at && x.Owner != owner && p.w.looksLike(x.Shown, shown) {
			return true
		}
	}
	return false
}

func (p *plain) looking(shown string) (l []api.Entry) {
	for _, x := range p.l {
		if p.w.looksLike(x.Shown, shown) {
			l = append(l, x)
		}
	}
	return l
}

func before(x, y api.Entry) bool {
	n := name.Compare(x.Name, y.Name)
	return n < 0 || n == 0 && x.Name < y.Name
}

// pair is a book, and what it is by the words.
type pair struct {
	plain
	b *book.Book
}

func (w *world) begun(t *testing.T, flags int) *pair {
	t.Helper()
	b, e := book.New(w.d, flags)
	if b == nil || e != api.OK {
		t.Fatalf("24.1: %s: New with %d: %v", w.name, flags, e)
	}
	return &pair{plain{w, flags, nil}, b}
}

// ask holds what the book tells against the words, and all that it then has.
func (p *pair) ask(t *testing.T, c call) told {
	t.Helper()
	was := len(p.l)
	want := p.told(t, c)
	if a := asked(p.b, c); !a.is(want) {
		t.Fatalf("24.%d: %s, flags %d, %d entries: %d %q %d %d: %v, want %v", []int{2, 3, 3, 4, 4}[c.kind], p.w.name, p.flags, was, c.kind, some(c.s), c.from, c.to, a, want)
	}
	p.hold(t)
	return want
}

func (p *pair) hold(t *testing.T) {
	t.Helper()
	if l := p.b.List(); !slices.Equal(l, p.l) || p.b.Len() != len(p.l) {
		t.Fatalf("24.5: %s, flags %d: List, Len: %v, %d, want %v, %d", p.w.name, p.flags, l[:min(len(l), 40)], p.b.Len(), p.l[:min(len(p.l), 40)], len(p.l))
	}
}

// probe asks what changes nothing.
func (p *pair) probe(t *testing.T, texts ...string) {
	t.Helper()
	for _, s := range texts {
		p.ask(t, finds(s))
		p.ask(t, alikes(s))
	}
}

// step is a call, and what it tells.
type step struct {
	call
	want told
}

// run holds the words, and the book, against what the test says; behind each step all that was asked is asked for.
func (p *pair) run(t *testing.T, steps ...step) {
	t.Helper()
	for i, c := range steps {
		if a := p.ask(t, c.call); !a.is(c.want) {
			t.Fatalf("%s: the words say of step %d, %d %q %d %d: %v, want %v", p.w.name, i, c.kind, some(c.s), c.from, c.to, a, c.want)
		}
		for _, other := range steps {
			p.probe(t, other.s)
		}
	}
}

// drawnWorld is a right table's: records of all that a name's form is asked are drawn, and each that makes it wrong is left out.
func drawnWorld(t *testing.T, draw *rand.Rand) *world {
	t.Helper()
	l, _, _ := table.Parse(base + "valid E0..EF\nvalid 300..307\nvalid 5D0..5D3\nvalid AC00..AC03\n")
	pool := []rune{0x20, 0x31, 0x41, 0x42, 0x5F, 0x61, 0x62, 0x2D, 0x30, 0xB7, 0xAC00, 0xAC01, 0x5D0, 0x5D1, 0x10FFFE}
	for c := range rune(8) {
		pool = append(pool, 0xE0+c, 0x300+c)
	}
	one := func() rune { return pool[draw.IntN(len(pool))] }
	keep := func(r api.Record) {
		if _, e := canon.Check(append(slices.Clone(l), r)); e == api.OK {
			l = append(l, r)
		}
	}
	for range 25 {
		c := int(one())
		keep(api.Record{Kind: api.KLooks, Lo: c, Hi: c, To: []rune{one(), one()}[:1+draw.IntN(5)/4]})
		keep(api.Record{Kind: api.KValid, Lo: int(one()), Hi: int(one())})
	}
	for range 40 {
		c := int(one())
		to := []rune{one(), one()}
		keep([]api.Record{
			{Kind: api.KMapped, Lo: c, Hi: c, To: to},
			{Kind: api.KShift, Lo: c, Hi: c + 1, N: 1, To: to[:1]},
			{Kind: api.KDeviation, Lo: c, Hi: c, To: to[:1]},
			{Kind: api.KDecomp, Lo: c, Hi: c, To: to},
			{Kind: api.KOpens, Lo: c, Hi: c, To: to[:1]},
			{Kind: api.KClass, Lo: c, Hi: c, N: 1 + draw.IntN(3)},
			{Kind: api.KIgnored, Lo: c, Hi: c},
			{Kind: api.KMark, Lo: c, Hi: c},
			{Kind: api.KBidi, Lo: c, Hi: c, N: draw.IntN(11)},
		}[draw.IntN(9)])
	}
	draw.Shuffle(len(l), func(i, j int) { l[i], l[j] = l[j], l[i] })
	return worldOf(t, "drawn", l)
}

// text is some short labels with full stops between.
func (w *world) text(draw *rand.Rand) string {
	var l []string
	for range 1 + draw.IntN(3) {
		from := w.tame
		if draw.IntN(20) == 0 {
			from = w.all
		}
		var s string
		for range draw.IntN(10)/3 + draw.IntN(2) {
			s += string(from[draw.IntN(len(from))])
		}
		l = append(l, s)
	}
	return strings.Join(l, ".")
}

// relook is a text that looks alike, or nearly.
func (w *world) relook(draw *rand.Rand, s string) string {
	var l []rune
	for _, c := range s {
		x, _ := looks.Skeleton(w.d, []rune{c})
		if g := w.groups[string(x)]; len(g) > 0 && draw.IntN(2) == 0 {
			c = g[draw.IntN(len(g))]
		}
		l = append(l, c)
	}
	return string(l)
}

// rewrite is a text as it is carried, as it is shown, or label by label as one of them; or in another case, or opened.
func (w *world) rewrite(t *testing.T, draw *rand.Rand, flags int, s string) string {
	a, u, ok := w.form(t, flags, s)
	switch n := draw.IntN(6); {
	case n == 0:
		return strings.ToUpper(s)
	case n == 1:
		var l []rune
		for _, c := range s {
			l = append(l, w.d.Full(c)...)
		}
		return string(l)
	case !ok:
		return s
	case n == 2:
		return a
	case n == 3:
		return u
	}
	carried, letters := strings.Split(a, "."), strings.Split(u, ".")
	for i := range carried {
		if draw.IntN(2) == 0 {
			carried[i] = letters[i]
		}
	}
	return strings.Join(carried, ".")
}
