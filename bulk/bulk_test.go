package bulk_test

import (
	"math"
	"math/rand/v2"
	"runtime"
	"slices"
	"strconv"
	"sync"
	"testing"
	"time"
	"unsafe"

	"endonym/api"
	"endonym/bulk"
	"endonym/house"
	"endonym/ucd"
)

// 25.1: what is refused

// counted are jobs each of whose answers is its own.
func counted(n int) (l []api.Job) {
	for i := range n {
		l = append(l, api.Job{Text: "A\u00FC" + strconv.Itoa(i), ASCII: i%2 == 0})
	}
	return l
}

func TestRefused(t *testing.T) {
	w := houseWorld(t)
	for _, d := range []*ucd.Data{nil, w.d} {
		for _, workers := range []int{math.MinInt, math.MinInt + 5, -1<<32 + 1, math.MinInt32, -16, -1, 0, 1, 2, 15, 16, 17, 18, 256, math.MaxInt32, 1 << 32, 1<<32 + 1, math.MaxInt} {
			for _, n := range []int{0, 1, 2, 16, 17, 255, 256, 257, 258, 512, 4096, 65536, 65537} {
				jobs := counted(n)
				want := api.OK
				switch {
				case d == nil || workers < 1 || workers > 16:
					want = api.ErrArg
				case n > 256:
					want = api.ErrMany
				}
				l, e := bulk.Run(d, workers, jobs)
				if e != want || want != api.OK && len(l) != 0 {
					t.Fatalf("25.1: Run with Data %t of %d jobs by %d workers: %d answers, %v, want %v", d != nil, n, workers, len(l), e, want)
				}
				if want == api.OK {
					same(t, "house", workers, jobs, l, e, w.toldAll(jobs))
				}
			}
		}
	}
}

// What is refused is refused for what the jobs are not asked for.
func TestRefusedJobs(t *testing.T) {
	w := houseWorld(t)
	for _, j := range []api.Job{{}, {Flags: 64}, {Text: "\xFF"}, {Text: many(16385, "a"), ASCII: true}, {Text: "a"}} {
		jobs := slices.Repeat([]api.Job{j}, 257)
		for workers := 1; workers <= 16; workers++ {
			if l, e := bulk.Run(w.d, workers, jobs); len(l) != 0 || e != api.ErrMany {
				t.Errorf("25.1: Run of 257 jobs %q by %d workers: %d answers, %v", some(j.Text), workers, len(l), e)
			}
			w.hold(t, workers, jobs[1:])
		}
		if l, e := bulk.Run(nil, 0, jobs[:1]); len(l) != 0 || e != api.ErrArg {
			t.Errorf("25.1: Run without Data: %d answers, %v", len(l), e)
		}
	}
}

func TestNoJobs(t *testing.T) {
	d := house.Data()
	for workers := 1; workers <= 16; workers++ {
		for _, jobs := range [][]api.Job{nil, {}, counted(8)[:0], counted(8)[8:]} {
			if l, e := bulk.Run(d, workers, jobs); len(l) != 0 || e != api.OK {
				t.Errorf("25.1: Run of no jobs by %d workers: %v, %v", workers, l, e)
			}
		}
	}
}

// 25.1: what comes of a job

// row is a text under some flags, what it is in letters, and what it is as it is carried.
type row struct {
	s      string
	flags  int
	u      string
	us     api.Errs
	a      string
	as     api.Errs
	nobody bool // the flags are no setting
}

func fine(s string, flags int, u, a string) row { return row{s: s, flags: flags, u: u, a: a} }

// bad is a text with errors that both ways tell.
func bad(s string, flags int, u string, set api.Errs) row {
	return row{s: s, flags: flags, u: u, us: set, as: set}
}

// long is a text that is told alone to be so.
func long(s string, flags int) row { return bad(s, flags, s, api.TooLong) }

// unsaid is a text whose errors are told of what is carried alone.
func unsaid(s string, flags int, u string, set api.Errs) row {
	return row{s: s, flags: flags, u: u, as: set}
}

var over = many(2000, "a") + "\U0010FFFF" // there is no Punycode for it

// rows are of the house.
func rows() []row {
	return []row{
		fine("FOO", 0, "foo", "foo"), fine("xn--fa-hia", 0, "fa\u00DF", "xn--fa-hia"), fine("B\u00FCcher.example", api.Strict, "b\u00FCcher.example", "xn--bcher-kva.example"), fine("xn--fa-hia.de", api.Strict, "fa\u00DF.de", "xn--fa-hia.de"),
		fine("\u03C3\u03C2", 0, "\u03C3\u03C2", "xn--3xab"), fine("\u03C3\u03C2", api.Transitional, "\u03C3\u03C3", "xn--4xaa"), fine("\u05D01", api.CheckBidi, "\u05D01", "xn--1-zhc"),
		fine("f_o", 0, "f_o", "f_o"), fine("a.", 0, "a.", "a."), fine("a\u3002B", 0, "a.b", "a.b"), fine("", 0, "", ""), fine("", api.UseSTD3, "", ""), fine(".", 0, ".", "."),
		fine(many(16384, "a"), 0, many(16384, "a"), many(16384, "a")), long(many(16385, "a"), 0), long(many(16385, "a"), api.Strict), long(many(70000, "a"), api.Flags), long(many(16384, "a")+"\xFF", 0), long(many(8190, "\u00FC.")+"abcd\u00FC", 0),
		unsaid(many(4000, "\u00FC."), 0, many(4000, "\u00FC."), api.TooLong),
		bad("\xFF", 0, "\xFF", api.BadEncoding), bad("\xFF", 63, "\xFF", api.BadEncoding), bad("A.\xC3", api.Strict, "A.\xC3", api.BadEncoding), bad("\u00FC\xED\xA0\x80", 0, "\u00FC\xED\xA0\x80", api.BadEncoding),
		bad("xn--a-vbb", 0, "a\u0300", api.NotNFC), bad("-a", api.CheckHyphens, "-a", api.BadHyphen), fine("-a", 0, "-a", "-a"), bad("ab--c", api.Strict, "ab--c", api.BadHyphen),
		bad("xn--xn---3ra", 0, "xn--\u00FC", api.BadPrefix), bad("\u0300", 0, "\u0300", api.BadMark), bad("\u0250", 0, "\u0250", api.BadStatus), bad("a_", api.UseSTD3, "a_", api.BadSTD3),
		bad("a\u200Cb", api.CheckJoiners, "a\u200Cb", api.BadJoiner), bad("\u05D0a", api.CheckBidi, "\u05D0a", api.BadBidi), bad("xn--z", 0, "xn--z", api.BadPunycode), bad("xn--", 0, "xn--", api.BadPlain), bad("xn--abc-", 0, "xn--abc-", api.BadPlain),
		{s: over, u: over, us: api.BadStatus, as: api.BadOverflow | api.BadStatus},
		unsaid("a.", api.VerifyDNS, "a.", api.BadLabel), unsaid("", api.VerifyDNS, "", api.BadLabel|api.BadDomain), unsaid(many(64, "a"), api.Strict, many(64, "a"), api.BadLabel), unsaid(many(126, "a.")+"bb", api.VerifyDNS, many(126, "a.")+"bb", api.BadDomain),
		bad("\u00FC.a_b.\u05D0a", api.Strict, "\u00FC.a_b.\u05D0a", api.BadSTD3|api.BadBidi),
		nobody("a", 64), nobody("B\u00FCcher", -1), nobody("", math.MinInt), nobody("\xFF", math.MaxInt), nobody(many(16385, "a"), 65), nobody("a", 1<<32),
	}
}

// nobody is a text that no engine reads.
func nobody(s string, flags int) row {
	return row{s: s, flags: flags, us: all16, as: all16, nobody: true}
}

// both are a row's two jobs, and what they tell.
func (r row) both() ([]api.Job, []api.Told) {
	return []api.Job{{Text: r.s, Flags: r.flags}, {Text: r.s, Flags: r.flags, ASCII: true}}, []api.Told{{Text: r.u, Errs: r.us}, {Text: r.a, Errs: r.as}}
}

func asked() (jobs []api.Job, want []api.Told) {
	for _, r := range rows() {
		l, x := r.both()
		jobs, want = append(jobs, l...), append(want, x...)
	}
	return jobs, want
}

func TestRows(t *testing.T) {
	w := houseWorld(t)
	jobs, want := asked()
	for i, j := range jobs {
		if x := w.told(j); x != want[i] {
			t.Errorf("the words say of %q, %d, %t: %q, %d, want %q, %d", some(j.Text), j.Flags, j.ASCII, some(x.Text), x.Errs, some(want[i].Text), want[i].Errs)
		}
	}
	for workers := 1; workers <= 16; workers++ {
		l, e := bulk.Run(w.d, workers, jobs)
		same(t, "house", workers, jobs, l, e, want)
		for i := range jobs {
			l, e := bulk.Run(w.d, workers, jobs[i:i+1])
			same(t, "house", workers, jobs[i:i+1], l, e, want[i:i+1])
		}
	}
	seen := api.Errs(0)
	for _, r := range rows() {
		if !r.nobody {
			seen |= r.us | r.as
		}
	}
	if seen|api.BadDot != all16 { // no text comes to a label with a full stop
		t.Errorf("%b are asked", seen)
	}
}

// Each flag changes what is told of some text.
func TestEachFlag(t *testing.T) {
	w := houseWorld(t)
	for _, c := range []struct {
		flag       int
		s          string
		ascii      bool
		without, a api.Told
	}{
		{api.CheckHyphens, "-a", true, api.Told{Text: "-a"}, api.Told{Errs: api.BadHyphen}},
		{api.CheckBidi, "\u05D0a", false, api.Told{Text: "\u05D0a"}, api.Told{Text: "\u05D0a", Errs: api.BadBidi}},
		{api.CheckJoiners, "a\u200Db", false, api.Told{Text: "a\u200Db"}, api.Told{Text: "a\u200Db", Errs: api.BadJoiner}},
		{api.UseSTD3, "a_b", true, api.Told{Text: "a_b"}, api.Told{Errs: api.BadSTD3}},
		{api.Transitional, "fa\u00DF\u03C2", false, api.Told{Text: "fa\u00DF\u03C2"}, api.Told{Text: "fa\u00DF\u03C3"}},
		{api.VerifyDNS, "a..b", true, api.Told{Text: "a..b"}, api.Told{Errs: api.BadLabel}},
	} {
		j, with := api.Job{Text: c.s, ASCII: c.ascii}, api.Job{Text: c.s, Flags: c.flag, ASCII: c.ascii}
		others, all := api.Job{Text: c.s, Flags: 63 &^ c.flag, ASCII: c.ascii}, api.Job{Text: c.s, Flags: 63, ASCII: c.ascii}
		for workers := 1; workers <= 16; workers++ {
			jobs := []api.Job{j, with, j, others, all, with, j}
			l, e := bulk.Run(w.d, workers, jobs)
			same(t, "house", workers, jobs, l, e, []api.Told{c.without, c.a, c.without, w.told(others), w.told(all), c.a, c.without})
		}
	}
}

// All 64 settings stand in one Run.
func TestSettings(t *testing.T) {
	w := houseWorld(t)
	for _, s := range []string{"", "A.", "-a.\u03C2", "xn--3xab.\u05D0a.a_b", "a\u200Cb.\u0628\u200C\u0628", "xn--xn---3ra", "\u0300.\u0250", "B\u00FCcher.\u05D0", "\xFF", "xn--z.", many(64, "\u00FC")} {
		var jobs []api.Job
		for flags := range 64 {
			jobs = append(jobs, api.Job{Text: s, Flags: flags}, api.Job{Text: s, Flags: flags, ASCII: true})
		}
		for _, workers := range []int{1, 2, 7, 16} {
			w.hold(t, workers, jobs)
		}
	}
}

// Flags that are no setting, among jobs that are right: the neighbours are answered all the same.
func TestNoSetting(t *testing.T) {
	w := houseWorld(t)
	for _, flags := range noFlags {
		for _, s := range []string{"", "a", "B\u00FCcher", "\xFF", many(16385, "a"), "xn--z"} {
			for _, ascii := range []bool{false, true} {
				j, right := api.Job{Text: s, Flags: flags, ASCII: ascii}, api.Job{Text: "\u00FC", ASCII: ascii}
				is, beside := api.Told{Errs: all16}, api.Told{Text: "\u00FC"}
				if ascii {
					beside.Text = "xn--tda"
				}
				for _, workers := range []int{1, 2, 3, 16} {
					for _, c := range []struct {
						jobs []api.Job
						want []api.Told
					}{
						{[]api.Job{j}, []api.Told{is}},
						{[]api.Job{j, right}, []api.Told{is, beside}},
						{[]api.Job{right, j}, []api.Told{beside, is}},
						{[]api.Job{right, j, right, j, j, right}, []api.Told{beside, is, beside, is, is, beside}},
					} {
						l, e := bulk.Run(w.d, workers, c.jobs)
						same(t, "house", workers, c.jobs, l, e, c.want)
					}
				}
			}
		}
	}
}

// Memory

func TestHandedIn(t *testing.T) {
	w := houseWorld(t)
	draw := rand.New(rand.NewPCG(25, 1))
	for workers := 1; workers <= 16; workers++ {
		whole := w.jobs(draw, 80)
		was := slices.Clone(whole)
		for _, part := range [][]api.Job{whole[:0], whole[:40], whole[20:60], whole[:16]} {
			w.hold(t, workers, part)
			if !slices.Equal(whole, was) {
				t.Fatalf("25.1: %d workers: the jobs, or the room behind them, are changed", workers)
			}
		}
		bulk.Run(w.d, 0, whole[:40])
		bulk.Run(nil, workers, whole[:40])
		if !slices.Equal(whole, was) {
			t.Fatalf("25.1: %d workers: a Run that is refused changes jobs", workers)
		}
	}
}

// What is told is the caller's own: it may be written over and lengthened, and so may the jobs.
func TestOwn(t *testing.T) {
	w := houseWorld(t)
	jobs, want := asked()
	for workers := 1; workers <= 16; workers++ {
		mine := slices.Clone(jobs)
		first, _ := bulk.Run(w.d, workers, mine)
		second, _ := bulk.Run(w.d, workers, mine)
		for i := range first {
			first[i] = api.Told{Text: "written over", Errs: 7}
		}
		first = first[:cap(first)]
		for i := range first {
			first[i].Errs = 9
		}
		clear(mine)
		same(t, "house", workers, jobs, second, api.OK, want)
		third, e := bulk.Run(w.d, workers, jobs)
		same(t, "house", workers, jobs, third, e, want)
	}
}

// inside is whether a text lies in another's memory. Texts of one byte may all lie where the language keeps them.
func inside(a, b string) bool {
	if len(a) < 2 || len(b) < 2 {
		return false
	}
	at, from := uintptr(unsafe.Pointer(unsafe.StringData(a))), uintptr(unsafe.Pointer(unsafe.StringData(b)))
	return at >= from && at < from+uintptr(len(b))
}

func TestOwnTexts(t *testing.T) {
	w := houseWorld(t)
	jobs, _ := asked()
	for i := range jobs {
		jobs[i].Text = string([]byte(jobs[i].Text)) // two jobs of one row have texts of their own
	}
	for _, workers := range []int{1, 2, 16} {
		for i, x := range w.hold(t, workers, jobs) {
			if inside(x.Text, jobs[i].Text) {
				t.Errorf("25.1: %d workers: what is told of %q, %d, is a piece of it", workers, some(jobs[i].Text), jobs[i].Flags)
			}
		}
	}
}

// 25.2: goroutines

// settle waits a moment for goroutines that have done all that they do, and may not be counted out yet.
func settle(most int) int {
	for range 2000 {
		if runtime.NumGoroutine() <= most {
			break
		}
		time.Sleep(time.Millisecond)
	}
	return runtime.NumGoroutine()
}

func TestGoroutinesEnd(t *testing.T) {
	d := house.Data()
	jobs, _ := asked()
	ahead := runtime.NumGoroutine()
	ask := func(name string, workers int, jobs []api.Job) {
		t.Helper()
		for range 20 {
			bulk.Run(d, workers, jobs)
		}
		if n := settle(ahead); n > ahead {
			t.Fatalf("25.2: %s, %d workers: %d goroutines ahead, %d behind", name, workers, ahead, n)
		}
	}
	for workers := 1; workers <= 16; workers++ {
		ask("no jobs", workers, nil)
		ask("one job", workers, jobs[:1])
		ask("some jobs", workers, jobs[:workers])
		ask("many jobs", workers, jobs[:30])
		ask("256 jobs", workers, counted(256))
		ask("too many jobs", workers, counted(257))
		ask("flags that are none", workers, slices.Repeat([]api.Job{{Flags: 64}}, 20))
	}
	ask("no workers", 0, jobs)
	ask("too many workers", 17, jobs)
}

// Many callers at once, over one Data that nobody has asked before.
func TestManyCallers(t *testing.T) {
	w := houseWorld(t)
	jobs, want := asked()
	d := house.Data()
	var callers sync.WaitGroup
	var told [24][10][]api.Told
	for k := range told {
		callers.Go(func() {
			for n := range told[k] {
				told[k][n], _ = bulk.Run(d, 1+(k+n)%16, jobs)
			}
		})
	}
	var refused [8]api.Errno
	for k := range refused {
		callers.Go(func() { _, refused[k] = bulk.Run(d, 17*(k%2), jobs) })
	}
	callers.Wait()
	for k, l := range told {
		for n, x := range l {
			same(t, "many callers", 1+(k+n)%16, jobs, x, api.OK, want)
		}
	}
	for _, e := range refused {
		if e != api.ErrArg {
			t.Errorf("25.1: Run by no or too many workers: %v", e)
		}
	}
	w.hold(t, 16, jobs)
}
