package bulk_test

import (
	"math"
	"math/rand/v2"
	"slices"
	"strings"
	"testing"
	"unicode/utf8"

	"endonym/api"
	"endonym/bulk"
	"endonym/canon"
	"endonym/house"
	"endonym/idna"
	"endonym/puny"
	"endonym/table"
	"endonym/ucd"
)

// The chapter word by word: one job after the other, each answered by an engine that Run did not make.

const base = "valid 61..7A\nvalid 30..39\nvalid 2D..2E\n"

// free has every code point as Valid.
const free = base + "valid 0..2C\nvalid 2F\nvalid 3A..60\nvalid 7B..10FFFF\n"

// all16 is all that may be wrong with a domain.
const all16 api.Errs = 65535

// world is a right table compiled, with an engine for each setting.
type world struct {
	name    string
	d       *ucd.Data
	engines [64]*idna.Engine
	all     []rune // scalar values that the table tells apart
	tame    []rune // those of them that are Valid, and no full stop
}

func worldOf(t *testing.T, name string, l []api.Record) *world {
	t.Helper()
	d, at, e := ucd.Compile(l)
	if e != api.OK {
		t.Fatalf("%s: Compile: %d, %v", name, at, e)
	}
	w := &world{name: name, d: d}
	for flags := range w.engines {
		w.engines[flags], _ = idna.New(d, flags)
	}
	w.all = []rune{0, 0x2D, 0x2E, 0x41, 0x5F, 0x61, 0x62, 0x78, 0x6E, 0x7F, 0x80, 0xAC00, 0x200C, 0x200D, 0x10FFFF}
	for _, r := range l {
		if r.Kind != api.KMix {
			w.all = append(w.all, rune(r.Lo)-1, rune(r.Lo), rune(r.Hi), rune(r.Hi)+1)
		}
	}
	slices.Sort(w.all)
	w.all = slices.DeleteFunc(slices.Compact(w.all), func(c rune) bool { return !utf8.ValidRune(c) })
	for _, c := range w.all {
		if d.Status(c) == api.Valid && c != 0x2E {
			w.tame = append(w.tame, c)
		}
	}
	return w
}

func written(t *testing.T, name, s string) *world {
	t.Helper()
	l, at, e := table.Parse(s)
	if e != api.OK {
		t.Fatalf("%s: Parse: %v, %v", name, at, e)
	}
	return worldOf(t, name, l)
}

func houseWorld(t *testing.T) *world { t.Helper(); return worldOf(t, "house", house.Table()) }
func freeWorld(t *testing.T) *world  { t.Helper(); return written(t, "free", free) }

// told is what comes of one job.
func (w *world) told(j api.Job) (x api.Told) {
	switch {
	case j.Flags < 0 || j.Flags > 63:
		x.Errs = all16
	case j.ASCII:
		x.Text, x.Errs = w.engines[j.Flags].ToASCII(j.Text)
	default:
		x.Text, x.Errs = w.engines[j.Flags].ToUnicode(j.Text)
	}
	return x
}

func (w *world) toldAll(jobs []api.Job) (l []api.Told) {
	for _, j := range jobs {
		l = append(l, w.told(j))
	}
	return l
}

// some is what of a text is worth showing.
func some(s string) string { return s[:min(len(s), 60)] }

func many(n int, s string) string { return strings.Repeat(s, n) }

// same wants of jobs what the test says.
func same(t *testing.T, name string, workers int, jobs []api.Job, l []api.Told, e api.Errno, want []api.Told) {
	t.Helper()
	if e != api.OK || len(l) != len(want) {
		t.Fatalf("25.1: %s: Run of %d jobs by %d workers: %d answers, %v", name, len(jobs), workers, len(l), e)
	}
	for i, j := range jobs {
		if l[i] != want[i] {
			t.Fatalf("25.1: %s: Run of %d jobs by %d workers: job %d, %q of %d bytes, %d, %t: %q, %d, want %q, %d", name, len(jobs), workers, i, some(j.Text), len(j.Text), j.Flags, j.ASCII, some(l[i].Text), l[i].Errs, some(want[i].Text), want[i].Errs)
		}
	}
}

// hold holds a Run against the words, job by job.
func (w *world) hold(t *testing.T, workers int, jobs []api.Job) []api.Told {
	t.Helper()
	l, e := bulk.Run(w.d, workers, jobs)
	same(t, w.name, workers, jobs, l, e, w.toldAll(jobs))
	return l
}

// noFlags are no setting.
var noFlags = []int{-1, 64, math.MinInt, math.MaxInt, 65, 127, 128, -64, -47, 1 << 32, 1<<32 | 47, math.MinInt | 47, math.MaxInt32, math.MinInt32}

// drawnWorld is a right table's: records of all that a domain is asked are drawn, and each that makes it wrong is left out.
func drawnWorld(t *testing.T, draw *rand.Rand) *world {
	t.Helper()
	l, _, _ := table.Parse(base)
	pool := []rune{0x20, 0x2D, 0x2E, 0x31, 0x41, 0x58, 0x5F, 0x61, 0x78, 0x6E, 0x80, 0x94D, 0xAC00, 0x200B, 0x200C, 0x200D, 0x10FFFE}
	for c := range 8 + draw.IntN(16) {
		pool = append(pool, 0x300+rune(c))
	}
	one := func() rune { return pool[draw.IntN(len(pool))] }
	for range 90 {
		c := int(one())
		to := []rune{one(), one()}
		r := []api.Record{
			{Kind: api.KValid, Lo: c, Hi: min(c+draw.IntN(4), api.MaxRune)},
			{Kind: api.KValid, Lo: c, Hi: min(c+draw.IntN(4), api.MaxRune)},
			{Kind: api.KMapped, Lo: c, Hi: c, To: to[draw.IntN(2):]},
			{Kind: api.KShift, Lo: c, Hi: c, N: 1, To: to[:1]},
			{Kind: api.KDeviation, Lo: c, Hi: c, To: to[:1]},
			{Kind: api.KIgnored, Lo: c, Hi: c},
			{Kind: api.KClass, Lo: c, Hi: c, N: []int{9, 220, 230}[draw.IntN(3)]},
			{Kind: api.KDecomp, Lo: c, Hi: c, To: to},
			{Kind: api.KOpens, Lo: c, Hi: c, To: to},
			{Kind: api.KBidi, Lo: c, Hi: c, N: draw.IntN(11)},
			{Kind: api.KJoin, Lo: c, Hi: c, N: []int{api.JoinR, api.JoinL, api.JoinD, api.JoinC, api.JoinT}[draw.IntN(5)]},
			{Kind: api.KMark, Lo: c, Hi: c},
		}[draw.IntN(12)]
		if _, e := canon.Check(append(slices.Clone(l), r)); e == api.OK {
			l = append(l, r)
		}
	}
	draw.Shuffle(len(l), func(i, j int) { l[i], l[j] = l[j], l[i] })
	return worldOf(t, "drawn", l)
}

func pick(draw *rand.Rand, from []rune, most int) []rune {
	var x []rune
	for range draw.IntN(most + 1) {
		x = append(x, from[draw.IntN(len(from))])
	}
	return x
}

// label is a text without a full stop of its own, but where one comes by mapping.
func (w *world) label(draw *rand.Rand) string {
	tame := pick(draw, w.tame, 5)
	coded := func(x []rune) string { p, _ := puny.Encode(x); return "xn--" + p }
	switch draw.IntN(15) {
	case 0:
		return ""
	case 1:
		return string(pick(draw, w.all, 5))
	case 2, 3:
		return coded(tame)
	case 4:
		return coded(pick(draw, w.all, 4))
	case 5:
		return "xn--" + string(pick(draw, []rune("abcdefz0189-"), 6))
	case 6:
		return string(tame) + "--"
	case 7:
		return string(tame) + many(56+draw.IntN(10), "a")
	case 8:
		return string(slices.Insert(tame, draw.IntN(len(tame)+1), rune(0x200C+draw.IntN(2))))
	case 9:
		return coded(append([]rune("xn--"), tame...))
	}
	return string(tame)
}

// text is some labels with full stops between; now and then there are many more behind them, or bytes that are no UTF-8.
func (w *world) text(draw *rand.Rand) string {
	var l []string
	for range 1 + draw.IntN(3) {
		l = append(l, w.label(draw))
	}
	s := strings.Join(l, ".")
	switch draw.IntN(90) {
	case 0, 1:
		s += many(76+draw.IntN(12), ".ab")
	case 2:
		at := draw.IntN(len(s) + 1)
		s = s[:at] + "\xC3" + s[at:]
	case 3:
		s += many(5400+draw.IntN(100), ".ab")
	}
	return s
}

// job is a text to be processed; now and then its flags are no setting.
func (w *world) job(draw *rand.Rand) api.Job {
	j := api.Job{Text: w.text(draw), Flags: draw.IntN(64), ASCII: draw.IntN(2) == 0}
	switch draw.IntN(12) {
	case 0:
		j.Flags = noFlags[draw.IntN(len(noFlags))]
	case 1, 2, 3:
		j.Flags = api.Strict
	case 4, 5:
		j.Flags = 0
	}
	return j
}

func (w *world) jobs(draw *rand.Rand, n int) (l []api.Job) {
	for range n {
		l = append(l, w.job(draw))
	}
	return l
}
