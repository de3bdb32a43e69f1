package policy_test

import (
	"math"
	"math/rand/v2"
	"slices"
	"testing"

	"endonym/api"
	"endonym/looks"
	"endonym/policy"
	"endonym/weigh"
)

// limits of drawn policies; the cost of a label is drawn beside them.
var limits = []float64{0, 0.1, 0.25, 0.5, 1, 2, 8, 20, 1 << 53, 1e16, math.MaxFloat32, 1e39, math.Inf(1), 5e-324}

// worlds are the house, tables of these tests, and some that are drawn.
func worlds(t *testing.T, draw *rand.Rand, drawn int) []*world {
	t.Helper()
	l := []*world{houseWorld(t), written(t, "scales", scales), written(t, "letters", letters+"mix Aaaa Bbbb 1\nmix Cccc Aaaa 9007199254740992\nmix Bbbb Dddd 1\nlooks 102 61\n"), written(t, "cheap", cheap)}
	for range drawn {
		l = append(l, drawnWorld(t, draw))
	}
	return l
}

// Drawn sequences of drawn tables, numbers among them that are no code points; and 23.5.
func TestDrawnCosts(t *testing.T) {
	t.Parallel()
	draw := rand.New(rand.NewPCG(23, 1))
	fakes, several, great, steps := 0, 0, 0, 0
	for _, w := range worlds(t, draw, 150) {
		p := w.made(t, 0, 0)
		more := append(points(-1, 0x110000, 0x110061), w.all...)
		for range 200 {
			x := w.label(draw, w.all, 10)
			if draw.IntN(10) == 0 {
				x = w.label(draw, more, 10)
			}
			w.holdCost(t, p, x)
			if w.fake(x) {
				fakes++
			}
			if len(w.names(x)) > 2 {
				several++
			}
			if a := w.cost(x); a > 1e15 && a < inf {
				great++
			}
			if w.holdStep(t, p, x, more[draw.IntN(len(more))]) {
				steps++
			}
		}
	}
	if min(fakes, several, great) < 500 || steps < 15000 {
		t.Errorf("the draws are thin: %d, %d, %d, %d", fakes, several, great, steps)
	}
}

func (w *world) holdCost(t *testing.T, p *policy.Policy, x []rune) {
	t.Helper()
	a := p.Cost(x)
	if want := w.cost(x); api.Bits(a) != api.Bits(want) {
		t.Fatalf("23.2: %s: Cost(%X): %v, want %v", w.name, x, a, want)
	}
	if math.IsNaN(a) || weigh.Order(a, 0) < 0 {
		t.Fatalf("23.5: %s: Cost(%X): %v", w.name, x, a)
	}
	if looks.Fake(w.d, x) != w.fake(x) {
		t.Fatalf("22.3: %s: Fake(%X): %t", w.name, x, !w.fake(x))
	}
}

// holdStep is 23.5 of one number more; it tells whether that is asked.
func (w *world) holdStep(t *testing.T, p *policy.Policy, x []rune, c rune) bool {
	t.Helper()
	y := append(slices.Clone(x), c)
	if w.fake(x) || w.fake(y) {
		return false
	}
	if a, b := p.Cost(x), p.Cost(y); weigh.Order(b, a) < 0 {
		t.Fatalf("23.5: %s: Cost(%X): %v, and Cost(%X): %v", w.name, x, a, y, b)
	}
	return true
}

// All short sequences of numbers that meet one another in unlike ways.
func TestShortCosts(t *testing.T) {
	t.Parallel()
	for _, a := range []struct {
		w   *world
		all []rune
	}{
		{houseWorld(t), points(0x61, 0x2D, 0xE0, 0x300, 0x430, 0x431, 0x3B1, 0x4E00)},
		{written(t, "scales", scales), points(0x61, 0x62, 0x63, 0x66, 0x68, 0x69, -1)},
		{written(t, "letters", letters+"mix Aaaa Bbbb 1\nmix Cccc Aaaa 9007199254740992\nmix Bbbb Dddd 1\n"), points(0x100, 0x101, 0x102, 0x103, 0x105, 0x106)},
	} {
		p := a.w.made(t, 0, 0)
		last := [][]rune{nil}
		for range 5 {
			var next [][]rune
			for _, x := range last {
				a.w.holdCost(t, p, x)
				for _, c := range a.all {
					a.w.holdStep(t, p, x, c)
					next = append(next, append(slices.Clone(x), c))
				}
			}
			last = next
		}
	}
}

// That neither is Fake is asked for: with one number more a label may look like ASCII no more.
func TestWhereFakesFall(t *testing.T) {
	w := houseWorld(t)
	p := w.made(t, 0, 0)
	w.checkCost(t, p, points(0x430), inf)
	w.checkCost(t, p, points(0x430, 0x431), 0)
}

// Drawn texts, flags and limits: what is shown is what the document says, and 23.4.
func TestDrawnShows(t *testing.T) {
	t.Parallel()
	draw := rand.New(rand.NewPCG(23, 2))
	refused, inLetters, as, both := 0, 0, 0, 0
	for k, w := range worlds(t, draw, 150) {
		n := 300
		if k == 0 {
			n = 5000
		}
		all := settings()
		for range n {
			s, flags, limit := w.text(draw), all[draw.IntN(len(all))], limits[draw.IntN(len(limits))]
			if draw.IntN(3) == 0 {
				flags = 0
			}
			if draw.IntN(4) == 0 { // what a label costs, or a little less or more
				limit = w.cost([]rune(s))
				limit = []float64{limit, max(0, math.Nextafter(limit, 0)), math.Nextafter(limit, inf), float64(math.Nextafter32(float32(limit), 0))}[draw.IntN(4)]
			}
			p := w.made(t, flags, limit)
			want := w.show(t, flags, limit, s)
			w.holdShow(t, p, s, want)
			u, _ := w.engines[flags].ToUnicode(s)
			switch {
			case want.set != 0:
				refused++
			case want.n == 0 && !isASCII([]rune(u)):
				inLetters++
			case want.n > 0 && isASCII([]rune(want.text)):
				as++
			case want.n > 0:
				both++
			}
		}
	}
	if min(refused, inLetters, as, both) < 1500 {
		t.Errorf("the draws are thin: %d, %d, %d, %d", refused, inLetters, as, both)
	}
}

// One text under every setting, with every limit.
func TestEverySetting(t *testing.T) {
	t.Parallel()
	draw := rand.New(rand.NewPCG(23, 3))
	for k, w := range worlds(t, draw, 10) {
		n := 4
		if k == 0 {
			n = 40
		}
		for _, flags := range settings() {
			for _, limit := range limits {
				p := w.made(t, flags, limit)
				for range n {
					s := w.text(draw)
					w.holdShow(t, p, s, w.show(t, flags, limit, s))
				}
			}
		}
	}
}

// Of lower limits no more labels are shown in letters.
func TestLowerLimits(t *testing.T) {
	t.Parallel()
	draw := rand.New(rand.NewPCG(23, 4))
	rising := slices.Clone(limits)
	slices.Sort(rising)
	for _, w := range worlds(t, draw, 30) {
		for range 40 {
			s, last := w.text(draw), -1
			for _, limit := range rising {
				text, n, set := w.made(t, 0, limit).Show(s)
				if set != 0 {
					break
				}
				if last >= 0 && n > last {
					t.Fatalf("23.3: %s: %q with %v: %q, %d, and %d with less", w.name, s, limit, text, n, last)
				}
				last = n
			}
		}
	}
}

// Texts that are long, of labels of each kind: the bound is met from both sides.
func TestDrawnLongShows(t *testing.T) {
	t.Parallel()
	draw := rand.New(rand.NewPCG(23, 5))
	w := written(t, "cheap", cheap)
	kept, over, refused := 0, 0, 0
	for range 150 {
		var s string
		for range 500 + draw.IntN(1500) {
			s += []string{"\u00FC.", "\u00E0.", "\u00FC\u00E0.", "\u4E00."}[draw.IntN(4)]
		}
		s += many(1000+draw.IntN(2500), "\u4E00") + "." + many(draw.IntN(100), "a")
		want := w.show(t, 0, 0.5, s)
		w.holdShow(t, w.made(t, 0, 0.5), s, want)
		switch {
		case want.set != 0:
			refused++
		case isASCII([]rune(want.text)):
			over++
		default:
			kept++
		}
	}
	if min(kept, over, refused) < 10 {
		t.Errorf("the draws are thin: %d, %d, %d", kept, over, refused)
	}
}
