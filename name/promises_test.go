package name_test

import (
	"bytes"
	"math/rand/v2"
	"slices"
	"strings"
	"testing"

	"endonym/api"
	"endonym/name"
)

// asked is what Compare and Below tell of each two of some names.
type asked struct {
	l     []string
	order [][]int8
	below [][]bool
}

func askedOf(l []string) asked {
	q := asked{l: l}
	for _, a := range l {
		order, below := make([]int8, len(l)), make([]bool, len(l))
		for i, b := range l {
			order[i], below[i] = int8(name.Compare(a, b)), name.Below(a, b)
		}
		q.order, q.below = append(q.order, order), append(q.below, below)
	}
	return q
}

// checkTwo holds what 20.5 says of two names: one order both ways round, and 0 just of those that are alike but for A to Z.
func (q asked) checkTwo(t *testing.T) {
	t.Helper()
	small := make([]string, len(q.l))
	for i, s := range q.l {
		small[i] = folded(s)
	}
	for i := range q.l {
		for k := range q.l {
			n := q.order[i][k]
			if n < -1 || n > 1 || n != -q.order[k][i] || (n == 0) != (small[i] == small[k]) {
				t.Fatalf("20.5: %q, %q: %d, %d", q.l[i], q.l[k], n, q.order[k][i])
			}
		}
	}
}

// checkThree holds what 20.5 and 20.7 say of three names.
func (q asked) checkThree(t *testing.T) {
	t.Helper()
	for i := range q.l {
		for k := range q.l {
			if q.order[i][k] > 0 {
				continue
			}
			for m := range q.l {
				if q.order[k][m] > 0 {
					continue
				}
				if n := q.order[i][m]; n > 0 || n == 0 && (q.order[i][k] < 0 || q.order[k][m] < 0) {
					t.Fatalf("20.5: %q, %q, %q: no order", q.l[i], q.l[k], q.l[m])
				}
				if q.below[m][i] && !q.below[k][i] {
					t.Fatalf("20.7: %q, %q, %q", q.l[i], q.l[k], q.l[m])
				}
			}
		}
	}
}

// checkTogether wants what is Below a name to be one run of all names in their order.
func (q asked) checkTogether(t *testing.T) {
	t.Helper()
	place := make([]int, len(q.l))
	for i := range place {
		place[i] = i
	}
	slices.SortStableFunc(place, func(i, k int) int { return int(q.order[i][k]) })
	for d := range q.l {
		runs, inside := 0, false
		for _, i := range place {
			if q.below[i][d] && !inside {
				runs++
			}
			inside = q.below[i][d]
		}
		if runs != 1 {
			t.Fatalf("20.5: what is Below %q lies in %d runs", q.l[d], runs)
		}
	}
}

func (q asked) check(t *testing.T) {
	t.Helper()
	q.checkTwo(t)
	q.checkThree(t)
	q.checkTogether(t)
}

func TestOrderOfAllShortNames(t *testing.T) {
	askedOf(allTexts(".aB", 5)).check(t)
	askedOf(allTexts(".aAb", 4)).check(t)
	askedOf(allTexts(".\x00[z\xFF", 3)).check(t)
	askedOf(allTexts(".@A`a{Z", 2)).check(t)
}

func TestOrderOfDrawnNames(t *testing.T) {
	draw := rand.New(rand.NewPCG(20, 6))
	for range 20 {
		var l []string
		for range 100 {
			l = append(l, drawnName(draw))
		}
		for range 10 {
			s := l[draw.IntN(len(l))]
			l = append(l, strings.ToUpper(s), "a."+s, "\x00."+s, "\xFF."+s, s+".", "x"+s, drawnFit(draw))
		}
		askedOf(l).check(t)
	}
}

// W10 in its own words: a before b before c, a and c Below d.
func TestBelowLiesTogether(t *testing.T) {
	draw := rand.New(rand.NewPCG(20, 7))
	met := 0
	for range 200000 {
		d := drawnName(draw)
		l := name.Sorted(drawnName(draw)+"."+d, drawnName(draw), drawnName(draw)+"."+d)
		a, b, c := l[0], l[1], l[2]
		if name.Compare(a, b) != -1 || name.Compare(b, c) != -1 || !name.Below(a, d) || !name.Below(c, d) {
			continue
		}
		met++
		if !name.Below(b, d) {
			t.Fatalf("20.5: %q, %q, %q below %q", a, b, c, d)
		}
	}
	if met < 1000 {
		t.Errorf("20.5: the draw met only %d", met)
	}
}

// checkThereAndBack: whatever stands ahead and behind, even the beginning of another name.
func checkThereAndBack(t *testing.T, s string, draw *rand.Rand) {
	t.Helper()
	b, e := name.Pack(s)
	if e != api.OK || len(b) > 255 || len(b) == 0 {
		t.Fatalf("20.6: Pack(%q): %d bytes, %d", some(s), len(b), int(e))
	}
	other, _ := packed(drawnFit(draw))
	for _, ahead := range [][]byte{nil, {0}, {1}, {63}, {64}, {0x2E}, {255, 255}, other} {
		for _, behind := range [][]byte{nil, {0}, {1}, {0x2E}, {255}, other, b} {
			whole := slices.Concat(ahead, b, behind)
			if back, next, e := name.Unpack(whole, len(ahead)); back != s || next != len(ahead)+len(b) || e != api.OK {
				t.Fatalf("20.6: Unpack of Pack(%q) at %d: %q, %d, %d", some(s), len(ahead), back, next, int(e))
			}
		}
	}
}

func TestPackThereAndBack(t *testing.T) {
	draw := rand.New(rand.NewPCG(20, 8))
	for _, s := range []string{"", "a", "a.bc", "A.b.C", "\x00", "\xFF\x00.\x01", letters(63), letters(63) + "." + letters(63), sized(253, 0), sized(253, 2), strings.Repeat("a.", 126) + "a"} {
		checkThereAndBack(t, s, draw)
	}
	for _, s := range allTexts(".a\x00\x01\xFF", 5) {
		if _, e := packed(s); e == api.OK {
			checkThereAndBack(t, s, draw)
		}
	}
	for range 3000 {
		checkThereAndBack(t, drawnFit(draw), draw)
	}
}

// What Unpack takes Pack writes just so.
func TestUnpackThereAndBack(t *testing.T) {
	taken := 0
	check := func(b []byte, at int) {
		s, next, e := name.Unpack(b, at)
		if e != api.OK {
			return
		}
		taken++
		if again, e := name.Pack(s); e != api.OK || next < at || next > len(b) || !bytes.Equal(again, b[at:next]) {
			t.Fatalf("20.6: Unpack(%v, %d): %q, %d, of which Pack tells %v, %d", b, at, s, next, again, int(e))
		}
	}
	for _, s := range allTexts("\x00\x01\x02\x03\x2Ea\x40", 6) {
		for at := range len(s) {
			check([]byte(s), at)
		}
	}
	draw := rand.New(rand.NewPCG(20, 9))
	for range 50000 {
		b := make([]byte, draw.IntN(400))
		most := 1 + draw.IntN(70)
		for i := range b {
			b[i] = byte(draw.IntN(most))
		}
		check(b, draw.IntN(len(b)+1))
	}
	if taken < 100000 {
		t.Errorf("20.6: Unpack took only %d", taken)
	}
}

// In the order of their bytes what begins others stands just ahead of one of them.
func TestPackBeginsNoOther(t *testing.T) {
	l := allTexts(".a\x00\x01\x02", 6)
	draw := rand.New(rand.NewPCG(20, 10))
	for range 5000 {
		s := drawnFit(draw)
		l = append(l, s, "a."+s, s+".a", s+"a", "\x00."+s, s+".\x00")
		if p, ok := name.Parent(s); ok {
			l = append(l, p)
		}
	}
	slices.Sort(l)
	var bs [][]byte
	for _, s := range slices.Compact(l) {
		if b, e := name.Pack(s); e == api.OK {
			bs = append(bs, b)
		}
	}
	slices.SortFunc(bs, bytes.Compare)
	for i := range bs[1:] {
		if bytes.HasPrefix(bs[i+1], bs[i]) {
			t.Fatalf("20.6: %v begins %v", bs[i], bs[i+1])
		}
	}
	if len(bs) < 10000 {
		t.Errorf("20.6: only %d names", len(bs))
	}
}

// 20.7: up to the root, each Parent is before all that came ahead of it, and these are Below it.
func TestParentIsBefore(t *testing.T) {
	check := func(s string) {
		steps := 0
		for at := s; ; steps++ {
			p, ok := name.Parent(at)
			if !ok {
				if at != "" || p != "" {
					t.Fatalf("20.7: Parent(%q): %q, false", at, p)
				}
				break
			}
			if name.Compare(p, at) != -1 || name.Compare(p, s) != -1 || name.Compare(s, p) != 1 || !name.Below(at, p) || !name.Below(s, p) || name.Below(p, at) {
				t.Fatalf("20.7: %q, Parent of %q, which is above %q", p, at, s)
			}
			at = p
		}
		if steps > len(name.Labels(s)) || s != "" && steps == 0 {
			t.Fatalf("20.7: %d Parents of %q", steps, s)
		}
	}
	for _, s := range allTexts(".aB\xFF", 6) {
		check(s)
	}
	draw := rand.New(rand.NewPCG(20, 11))
	for range 5000 {
		check(drawnName(draw))
		check(drawnFit(draw))
	}
}

// 20.7 in its own words: a not behind b, b not behind c, c Below a.
func TestBetweenLiesBelow(t *testing.T) {
	draw := rand.New(rand.NewPCG(20, 12))
	met := 0
	for range 200000 {
		a := drawnName(draw)
		c := drawnName(draw) + "." + a
		b := drawnName(draw)
		if draw.IntN(3) == 0 {
			b += "." + strings.ToUpper(a)
		}
		if name.Compare(a, b) > 0 || name.Compare(b, c) > 0 || !name.Below(c, a) {
			continue
		}
		met++
		if !name.Below(b, a) {
			t.Fatalf("20.7: %q, %q, %q", a, b, c)
		}
	}
	if met < 1000 {
		t.Errorf("20.7: the draw met only %d", met)
	}
}
