package house_test

import (
	"crypto/sha256"
	"fmt"
	"hash/crc32"
	"math"
	"slices"
	"strconv"
	"strings"
	"testing"

	"endonym/api"
	"endonym/canon"
	"endonym/house"
	"endonym/pack"
	"endonym/table"
	"endonym/trie"
	"endonym/ucd"
	"endonym/wire"
)

// early is asked while the tests' package starts up: the sum is there by then.
var early = house.Sum()

func TestTextIsTheChapters(t *testing.T) {
	s := house.Text()
	if len(s) != 5954 || s[0] != '#' || s[len(s)-1] != '\n' || s[len(s)-2] != 'f' {
		t.Fatalf("10.1: Text has %d bytes", len(s))
	}
	lines := strings.SplitAfter(s, "\n")
	if len(chapter) != 372 || len(lines) != 373 || lines[372] != "" {
		t.Fatalf("10.1: Text has %d lines, the chapter %d", len(lines)-1, len(chapter))
	}
	for i, want := range chapter {
		if lines[i] != want+"\n" {
			t.Errorf("10.1: line %d: %q, want %q", i+1, lines[i], want)
		}
	}
	if x := fmt.Sprintf("%x", sha256.Sum256([]byte(s))); x != "229f8036ba2fc724b95dd1473ee3d8219da70ff8b188de0fa6fbbf0b32dcb243" {
		t.Errorf("10.1: the text's SHA-256: %s", x)
	}
	if house.Text() != s {
		t.Error("10.1: Text, asked again")
	}
}

func TestSum(t *testing.T) {
	want := crc32.Checksum([]byte(house.Text()), crc32.MakeTable(crc32.Castagnoli))
	if x := house.Sum(); x != want || x != 0x60362467 || x != wire.Sum([]byte(house.Text())) || x != early || x != house.Sum() {
		t.Errorf("10.1: Sum: %08X, at start-up %08X, want %08X", x, early, want)
	}
}

// Each byte of the text counts: the sum is of all of it.
func TestSumOfEachByte(t *testing.T) {
	b := []byte(house.Text())
	for i := range b {
		b[i] ^= 1
		if wire.Sum(b) == house.Sum() {
			t.Fatalf("10.1: Sum does not tell the byte at %d", i)
		}
		b[i] ^= 1
	}
	if wire.Sum(b[:len(b)-1]) == house.Sum() || wire.Sum(b[1:]) == house.Sum() {
		t.Error("10.1: Sum without the first or the last byte")
	}
}

var kinds = []string{"valid", "ignored", "mapped", "shift", "deviation", "class", "decomp", "opens", "bidi", "join", "mark", "script", "looks", "weight", "mix"}

// written is the records of the chapter's lines, read by chapter 6's rows without the program.
func written(t *testing.T) []api.Record {
	t.Helper()
	var l []api.Record
	for _, s := range chapter {
		if !strings.HasPrefix(s, "#") {
			l = append(l, row(t, strings.Split(s, " ")))
		}
	}
	return l
}

func row(t *testing.T, w []string) api.Record {
	t.Helper()
	r := api.Record{Kind: slices.Index(kinds, w[0]) + 1}
	if r.Kind == api.KMix {
		r.Name, r.Other, r.Weight = w[1], w[2], weight(t, w[3])
		return r
	}
	lo, hi, is := strings.Cut(w[1], "..")
	if !is {
		hi = lo
	}
	r.Lo, r.Hi = hex(t, lo), hex(t, hi)
	rest := w[2:]
	switch r.Kind {
	case api.KClass:
		r.N = whole(t, rest[0])
	case api.KBidi:
		r.N = slices.Index([]string{"L", "R", "AL", "AN", "EN", "ES", "CS", "ET", "ON", "BN", "NSM"}, rest[0])
	case api.KJoin:
		r.N = slices.Index([]string{"U", "R", "L", "D", "C", "T"}, rest[0])
	case api.KScript:
		r.Name = rest[0]
	case api.KWeight:
		r.Weight = weight(t, rest[0])
	case api.KShift:
		r.N, rest = whole(t, rest[1]), rest[:1]
		fallthrough
	default:
		for _, x := range rest {
			r.To = append(r.To, rune(hex(t, x)))
		}
	}
	return r
}

func hex(t *testing.T, s string) int {
	t.Helper()
	n, err := strconv.ParseInt(s, 16, 32)
	if err != nil {
		t.Fatal(err)
	}
	return int(n)
}

func whole(t *testing.T, s string) int {
	t.Helper()
	n, err := strconv.Atoi(s)
	if err != nil {
		t.Fatal(err)
	}
	return n
}

func weight(t *testing.T, s string) float64 {
	t.Helper()
	a, err := strconv.ParseFloat(s, 64)
	if err != nil {
		t.Fatal(err)
	}
	return a
}

// sameRecords holds all fields against each other.
func sameRecords(a, b []api.Record) bool {
	return slices.EqualFunc(a, b, func(x, y api.Record) bool {
		return x.Kind == y.Kind && x.Lo == y.Lo && x.Hi == y.Hi && x.N == y.N && slices.Equal(x.To, y.To) &&
			x.Name == y.Name && x.Other == y.Other && math.Float64bits(x.Weight) == math.Float64bits(y.Weight)
	})
}

func TestTableIsWhatParseTells(t *testing.T) {
	l, at, e := table.Parse(house.Text())
	if e != api.OK || at != (api.Place{}) || len(l) != 357 {
		t.Fatalf("10.2: Parse: %d records, %v, %d", len(l), at, e)
	}
	for i, r := range written(t) {
		if i >= len(l) || !sameRecords(l[i:i+1], []api.Record{r}) {
			t.Fatalf("10.1: the record %d of Parse: want %+v", i, r)
		}
	}
	if x := house.Table(); !sameRecords(x, l) || !table.Same(x, l) {
		t.Errorf("10.1: Table: %d records, not those of Parse", len(x))
	}
}

func TestRight(t *testing.T) {
	l := house.Table()
	if at, e := table.Check(l); at != 0 || e != api.OK {
		t.Errorf("10.2: table.Check: %d, %d", at, e)
	}
	if at, e := canon.Check(l); at != 0 || e != api.OK {
		t.Errorf("10.2: canon.Check: %d, %d", at, e)
	}
	if d, at, e := ucd.Compile(l); d == nil || at != 0 || e != api.OK {
		t.Errorf("10.2: ucd.Compile: %p, %d, %d", d, at, e)
	}
	if house.Data() == nil {
		t.Error("10.1: Data is nil")
	}
}

// DOC.md, example 7 of the whole.
func TestPacked(t *testing.T) {
	b, at, e := pack.Pack(house.Table())
	if len(b) != 2318 || at != 0 || e != api.OK {
		t.Fatalf("10.1: packed: %d bytes, %d, %d", len(b), at, e)
	}
	if l, at, e := pack.Unpack(b); !sameRecords(l, house.Table()) || len(l) != 357 || at != 0 || e != api.OK {
		t.Errorf("W7: unpacked: %d records, %d, %d", len(l), at, e)
	}
	s, e := table.Print(house.Table())
	if l, _, f := table.Parse(s); e != api.OK || f != api.OK || !sameRecords(l, house.Table()) {
		t.Errorf("W7: printed and read: %d records, %d, %d", len(l), e, f)
	}
}

func TestExamples(t *testing.T) {
	d := house.Data()
	if d.Status(0x41) != api.Mapped || d.Status(0xDF) != api.Valid || d.Status(0x1E9E) != api.Deviation || d.Status(0x200C) != api.Deviation {
		t.Error("10.1: Status")
	}
	for _, c := range []struct {
		c  rune
		to []rune
	}{
		{0x41, []rune{0x61}}, {0xDF, nil}, {0x1E9E, []rune{0x73, 0x73}}, {0x3C2, []rune{0x3C3}}, {0x200C, nil},
	} {
		if x := d.Mapping(c.c); !slices.Equal(x, c.to) {
			t.Errorf("10.1: Mapping(%X): %X", c.c, x)
		}
	}
	if x := d.Full(0x1EA7); !slices.Equal(x, []rune{0x61, 0x302, 0x300}) {
		t.Errorf("10.1: Full(1EA7): %X", x)
	}
}

// answers is what the calls and the tries tell of a number.
type answers struct {
	status, class, bidi, join int
	mark, second              bool
	script                    string
	weight                    uint64
	mapping, open, full, like []rune
	tries                     [5]int
}

func (a answers) alike(b answers) bool {
	lists := slices.Equal(a.mapping, b.mapping) && slices.Equal(a.open, b.open) && slices.Equal(a.full, b.full) && slices.Equal(a.like, b.like)
	return lists && a.status == b.status && a.class == b.class && a.bidi == b.bidi && a.join == b.join && a.mark == b.mark &&
		a.second == b.second && a.script == b.script && a.weight == b.weight && a.tries == b.tries
}

func tried(d *ucd.Data) [5]*trie.Trie {
	return [5]*trie.Trie{d.Trie(ucd.Status), d.Trie(ucd.Class), d.Trie(ucd.Bidi), d.Trie(ucd.Join), d.Trie(ucd.Mark)}
}

func asked(d *ucd.Data, tries [5]*trie.Trie, c rune) answers {
	a := answers{
		status: d.Status(c), class: d.Class(c), bidi: d.Bidi(c), join: d.Join(c), mark: d.Mark(c), second: d.Second(c), script: d.Script(c),
		weight: math.Float64bits(d.Weight(c)), mapping: d.Mapping(c), open: d.Open(c), full: d.Full(c), like: d.Looks(c),
	}
	for i, x := range tries {
		a.tries[i] = x.Get(int(c))
	}
	return a
}

// said is what the chapter's lines say of each number, laid out record by record.
type said struct {
	of    map[rune]*answers
	pairs map[[2]rune]rune
	mixes map[[2]string]float64
}

func laidOut(l []api.Record) *said {
	s := &said{of: map[rune]*answers{}, pairs: map[[2]rune]rune{}, mixes: map[[2]string]float64{}}
	s.syllables()
	for _, r := range l {
		step := 1
		if r.Kind == api.KShift {
			step = r.N
		}
		switch r.Kind {
		case api.KMix:
			s.mixes[[2]string{r.Name, r.Other}] = float64(float32(r.Weight))
			s.mixes[[2]string{r.Other, r.Name}] = float64(float32(r.Weight))
			continue
		case api.KDecomp:
			s.pair(r.To[0], r.To[1], rune(r.Lo))
		}
		for c := r.Lo; c <= r.Hi; c += step {
			s.note(rune(c), r)
		}
	}
	return s
}

func (s *said) at(c rune) *answers {
	if s.of[c] == nil {
		s.of[c] = &answers{}
	}
	return s.of[c]
}

func (s *said) pair(a, b, c rune) {
	s.pairs[[2]rune{a, b}] = c
	s.at(b).second = true
}

// syllables are chapter 7's: L and V, with t = 0; these and T.
func (s *said) syllables() {
	for i := range rune(19 * 21) {
		first, l, v := 0xAC00+28*i, 0x1100+i/21, 0x1161+i%21
		s.at(first).open = []rune{l, v}
		s.pair(l, v, first)
		for x := rune(1); x <= 27; x++ {
			s.at(first + x).open = []rune{first, 0x11A7 + x}
			s.pair(first, 0x11A7+x, first+x)
		}
	}
}

// note is chapter 9's word on one record and one number.
func (s *said) note(c rune, r api.Record) {
	a := s.at(c)
	switch r.Kind {
	case api.KValid:
		a.status = 1
	case api.KIgnored:
		a.status = 2
	case api.KMapped:
		a.status, a.mapping = 3, r.To
	case api.KShift:
		a.status, a.mapping = 3, []rune{r.To[0] + c - rune(r.Lo)}
	case api.KDeviation:
		a.status, a.mapping = 4, r.To
	case api.KClass:
		a.class = r.N
	case api.KDecomp, api.KOpens:
		a.open = r.To
	case api.KBidi:
		a.bidi = r.N
	case api.KJoin:
		a.join = r.N
	case api.KMark:
		a.mark = true
	case api.KScript:
		a.script = r.Name
	case api.KLooks:
		a.like = r.To
	case api.KWeight:
		a.weight = math.Float64bits(float64(float32(r.Weight)))
	}
}

func (s *said) full(c rune) []rune {
	a := s.of[c]
	if a == nil || len(a.open) == 0 {
		return []rune{c}
	}
	var x []rune
	for _, y := range a.open {
		x = append(x, s.full(y)...)
	}
	return x
}

// want is all that must be told of a number.
func (s *said) want(c rune) answers {
	var a answers
	if s.of[c] != nil {
		a = *s.of[c]
	}
	if len(a.like) == 0 {
		a.like = []rune{c}
	}
	a.full = s.full(c)
	a.tries = [5]int{a.status, a.class, a.bidi, a.join, 0}
	if a.mark {
		a.tries[4] = 1
	}
	return a
}

// noPoints are numbers that are no code points.
var noPoints = []rune{math.MinInt32, math.MinInt32 + 1, -0x110000, -0x10FFFF, -0xAC00, -0x300, -0x61, -0x41, -2, -1, 0x110000, 0x110001, 0x110041, 0x110061, 0x110300, 0x11AC00, 0x200000, 1 << 30, math.MaxInt32 - 1, math.MaxInt32}

// every gives the numbers from -300 to 110300, and some farther off.
func every(give func(rune) bool) {
	for c := rune(-0x300); c <= 0x110300; c++ {
		if !give(c) {
			return
		}
	}
	for _, c := range noPoints {
		if !give(c) {
			return
		}
	}
}

// held holds a Data against the chapter's lines at every number.
func held(t *testing.T, d *ucd.Data, s *said) {
	t.Helper()
	tries := tried(d)
	for c := range every {
		if got, want := asked(d, tries, c), s.want(c); !got.alike(want) {
			t.Fatalf("W7: of %X:\n%+v, want\n%+v", c, got, want)
		}
	}
}

func TestDataIsTheWritten(t *testing.T) {
	l := written(t)
	held(t, house.Data(), laidOut(l))
	d := house.Data()
	for _, p := range []int{math.MinInt, -1, 0, 6, 7, math.MaxInt} {
		if d.Trie(p) != nil {
			t.Errorf("10.1: Trie(%d) is not nil", p)
		}
	}
	for _, r := range l {
		for _, c := range []int{r.Lo - 1, r.Lo, r.Hi, r.Hi + 1} {
			full, e := canon.Full(l, rune(c))
			if d.Class(rune(c)) != canon.Class(l, rune(c)) || !slices.Equal(d.Open(rune(c)), canon.Open(l, rune(c))) || !slices.Equal(d.Full(rune(c)), full) || e != api.OK {
				t.Errorf("10.1: of %X: not canon's", c)
			}
		}
	}
}

// What Data tells at every number is what Compile of Parse tells.
func TestDataIsWhatCompileTells(t *testing.T) {
	l, _, _ := table.Parse(house.Text())
	want, _, e := ucd.Compile(l)
	if e != api.OK {
		t.Fatalf("10.2: Compile: %d", e)
	}
	d := house.Data()
	for c := range every {
		if x, y := asked(d, tried(d), c), asked(want, tried(want), c); !x.alike(y) {
			t.Fatalf("10.1: of %X: %+v, Compile: %+v", c, x, y)
		}
		if c == 0x500 {
			break
		}
	}
	held(t, want, laidOut(written(t)))
}

func TestPairs(t *testing.T) {
	d, s := house.Data(), laidOut(written(t))
	var numbers []rune
	for p, c := range s.pairs {
		if x, ok := d.Compose(p[0], p[1]); x != c || !ok {
			t.Fatalf("W7: Compose(%X, %X): %X, %v, want %X", p[0], p[1], x, ok, c)
		}
		if c < 0xAC00 || c > 0xD7A3 {
			numbers = append(numbers, p[0], p[1], c)
		}
	}
	numbers = append(numbers, 0x10FF, 0x1100, 0x1112, 0x1113, 0x1160, 0x1161, 0x1175, 0x1176, 0x11A7, 0x11A8, 0x11C2, 0x11C3, 0xABFF, 0xAC00, 0xAC01, 0xD788, 0xD7A3, 0xD7A4)
	numbers = append(numbers, noPoints...)
	for _, r := range written(t) {
		if r.Kind == api.KOpens { // what opens alone does not compose again
			numbers = append(numbers, r.To...)
		}
	}
	slices.Sort(numbers)
	numbers = slices.Compact(numbers)
	for _, a := range numbers {
		for _, b := range numbers {
			want, is := s.pairs[[2]rune{a, b}]
			if x, ok := d.Compose(a, b); x != want || ok != is {
				t.Fatalf("W7: Compose(%X, %X): %X, %v, want %X, %v", a, b, x, ok, want, is)
			}
		}
	}
}

func TestMixes(t *testing.T) {
	d, s := house.Data(), laidOut(written(t))
	names := []string{"", "Latn", "Cyrl", "Grek", "Hebr", "Arab", "Deva", "Beng", "Hira", "Kana", "Hani", "Hang", "Dsrt", "Adlm", "Zzzz", "latn"}
	for _, a := range names {
		for _, b := range names {
			if x, want := d.Mix(a, b), s.mixes[[2]string{a, b}]; math.Float64bits(x) != math.Float64bits(want) {
				t.Errorf("W7: Mix(%q, %q): %v, want %v", a, b, x, want)
			}
		}
	}
	if d.Mix("Arab", "Hebr") != math.Inf(1) || d.Mix("Cyrl", "Latn") != 8 || d.Mix("Hani", "Latn") != 0.5 {
		t.Error("W7: Mix")
	}
}

// spoil writes over all that a list of records holds, and over the room behind.
func spoil(l []api.Record) {
	for i := range l {
		to := l[i].To[:cap(l[i].To)]
		for k := range to {
			to[k] = 0x7A
		}
	}
	l = l[:cap(l)]
	for i := range l {
		l[i] = api.Record{Kind: api.KIgnored, Lo: 0, Hi: api.MaxRune, To: []rune{1}, Name: "Zzzz", N: 9}
	}
}

func TestTableIsItsCallers(t *testing.T) {
	want := written(t)
	held := house.Table()
	d := house.Data()
	first := house.Table()
	spoil(first)
	for _, l := range [][]api.Record{held, house.Table()} {
		if !sameRecords(l, want) {
			t.Fatal("10.1: Table hangs on what a caller wrote over an answer")
		}
	}
	s := laidOut(want)
	for _, x := range []*ucd.Data{d, house.Data()} {
		tries := tried(x)
		for _, r := range want {
			if c := rune(r.Lo); !asked(x, tries, c).alike(s.want(c)) {
				t.Fatalf("10.1: Data hangs on what a caller wrote over a Table: of %X", c)
			}
		}
	}
	if house.Sum() != 0x60362467 || len(house.Text()) != 5954 {
		t.Error("10.1: Text, Sum hang on what a caller wrote over a Table")
	}
}

// No two lists of one answer share memory, the room behind them included.
func TestTablesListsAreApart(t *testing.T) {
	l, want := house.Table(), written(t)
	for i := range l {
		to := l[i].To[:cap(l[i].To)]
		for k := range to {
			to[k] = rune(i)
		}
	}
	for i := range l {
		for _, x := range l[i].To {
			if x != rune(i) {
				t.Fatalf("10.1: the record %d shares its list", i)
			}
		}
		if len(l[i].To) != len(want[i].To) {
			t.Fatalf("10.1: the record %d has a list of %d", i, len(l[i].To))
		}
	}
}

// spoilData writes over the lists and the tries that a Data tells.
func spoilData(d *ucd.Data) {
	for c := range rune(0x2000) {
		for _, x := range [][]rune{d.Mapping(c), d.Open(c), d.Full(c), d.Looks(c)} {
			x = x[:cap(x)]
			for i := range x {
				x[i] = 0x7A
			}
		}
	}
	for _, x := range tried(d) {
		*x = trie.Trie{}
	}
}

func TestDataIsItsCallers(t *testing.T) {
	s := laidOut(written(t))
	other := house.Data()
	d := house.Data()
	spoilData(d)
	held(t, d, s)
	*d = ucd.Data{}
	held(t, other, s)
	held(t, house.Data(), s)
}
