package bulk_test

import (
	"math/rand/v2"
	"slices"
	"sync"
	"testing"

	"endonym/api"
	"endonym/bulk"
)

func worlds(t *testing.T, draw *rand.Rand, drawn int) []*world {
	t.Helper()
	l := []*world{houseWorld(t), freeWorld(t), written(t, "base", base)}
	for range drawn {
		l = append(l, drawnWorld(t, draw))
	}
	return l
}

// Drawn jobs are answered by any workers as an engine answers each.
func TestDrawn(t *testing.T) {
	t.Parallel()
	draw := rand.New(rand.NewPCG(25, 2))
	with := map[api.Errs]int{}
	fine, none, most := 0, 0, 0
	for k, w := range worlds(t, draw, 80) {
		n := 6
		if k == 0 {
			n = 60
		}
		for range n {
			jobs := w.jobs(draw, []int{draw.IntN(6), draw.IntN(40), 255 + draw.IntN(2), draw.IntN(257)}[draw.IntN(4)])
			for i, x := range w.hold(t, 1+draw.IntN(16), jobs) {
				for e := api.Errs(1); e <= api.BadDomain && x.Errs != all16; e <<= 1 {
					with[e&x.Errs]++
				}
				if x.Errs == 0 && x.Text != jobs[i].Text {
					fine++
				}
				if x.Errs == all16 {
					none++
				}
			}
			if len(jobs) == 256 {
				most++
			}
		}
	}
	for e := api.Errs(1); e <= api.BadDomain; e <<= 1 {
		if e&(api.BadDot|api.BadOverflow) == 0 && with[e] < 100 {
			t.Errorf("the draws are thin: %d with the error %d", with[e], e)
		}
	}
	if fine < 2000 || none < 1000 || most < 20 {
		t.Errorf("the draws are thin: %d, %d, %d", fine, none, most)
	}
}

// The same jobs by each number of workers, and each job alone by any.
func TestWorkers(t *testing.T) {
	t.Parallel()
	draw := rand.New(rand.NewPCG(25, 3))
	for _, w := range worlds(t, draw, 20) {
		for _, n := range []int{1, 2, 3, 5, 8, 15, 16, 17, 31, 100} {
			jobs := w.jobs(draw, n)
			want := w.hold(t, 1, jobs)
			for workers := 2; workers <= 16; workers++ {
				l, e := bulk.Run(w.d, workers, jobs)
				if e != api.OK || !slices.Equal(l, want) {
					t.Fatalf("25.2: %s: %d jobs: %d workers tell another answer than one, %v", w.name, n, workers, e)
				}
			}
			for i := range jobs {
				workers := 1 + draw.IntN(16)
				if l, e := bulk.Run(w.d, workers, jobs[i:i+1]); e != api.OK || len(l) != 1 || l[0] != want[i] {
					t.Fatalf("25.2: %s: the job %q, %d, alone by %d workers: %v, %v; among %d: %v", w.name, some(jobs[i].Text), jobs[i].Flags, workers, l, e, n, want[i])
				}
			}
		}
	}
}

// Jobs in another order, parts of them, and jobs that are there several times.
func TestOthers(t *testing.T) {
	t.Parallel()
	draw := rand.New(rand.NewPCG(25, 4))
	for _, w := range worlds(t, draw, 20) {
		for range 4 {
			jobs := w.jobs(draw, 1+draw.IntN(60))
			want := w.hold(t, 1+draw.IntN(16), jobs)
			for range 12 {
				var other []api.Job
				var told []api.Told
				at := draw.Perm(len(jobs))[:draw.IntN(len(jobs)+1)]
				if draw.IntN(2) == 0 {
					at = nil
					for range draw.IntN(257) {
						at = append(at, draw.IntN(len(jobs)))
					}
				}
				for _, i := range at {
					other, told = append(other, jobs[i]), append(told, want[i])
				}
				workers := 1 + draw.IntN(16)
				l, e := bulk.Run(w.d, workers, other)
				same(t, w.name, workers, other, l, e, told)
			}
			slices.Reverse(jobs)
			slices.Reverse(want)
			l, e := bulk.Run(w.d, 16, jobs)
			same(t, w.name, 16, jobs, l, e, want)
		}
	}
}

// One job takes its time, the others do not: none is left out, wherever the long one stands.
func TestUnlikeTimes(t *testing.T) {
	t.Parallel()
	w := houseWorld(t)
	slow := api.Job{Text: many(2700, "\u00FCx") + "." + many(2700, "\u00E9\u0323"), ASCII: true}
	for _, workers := range []int{1, 2, 3, 15, 16} {
		for _, at := range []int{0, 1, 14, 15, 16, 29} {
			jobs := counted(30)
			jobs[at] = slow
			w.hold(t, workers, jobs)
		}
	}
	w.hold(t, 16, slices.Repeat([]api.Job{slow}, 20))
}

// Many callers at once over drawn tables.
func TestDrawnCallers(t *testing.T) {
	t.Parallel()
	draw := rand.New(rand.NewPCG(25, 5))
	for _, w := range worlds(t, draw, 12) {
		var jobs [8][]api.Job
		var told, again [8][]api.Told
		var workers [8]int
		for k := range jobs {
			jobs[k], workers[k] = w.jobs(draw, draw.IntN(60)), 1+draw.IntN(16)
		}
		var callers sync.WaitGroup
		for k := range jobs {
			callers.Go(func() { told[k], _ = bulk.Run(w.d, workers[k], jobs[k]) })
			callers.Go(func() { again[k], _ = bulk.Run(w.d, 17-workers[k], jobs[k]) })
		}
		callers.Wait()
		for k := range jobs {
			want := w.toldAll(jobs[k])
			same(t, w.name, workers[k], jobs[k], told[k], api.OK, want)
			same(t, w.name, 17-workers[k], jobs[k], again[k], api.OK, want)
		}
	}
}
