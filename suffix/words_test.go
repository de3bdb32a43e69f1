package suffix_test

import (
	"math/rand/v2"
	"regexp"
	"slices"
	"sort"
	"strings"
	"testing"

	"endonym/api"
	"endonym/house"
	"endonym/idna"
	"endonym/suffix"
	"endonym/table"
	"endonym/ucd"
)

// The chapter word by word, by other ways than the program's: a reader that goes byte by byte, rules whose form is told by a
// pattern, and all of them asked one by one whether they hold.

// odd is a table in which the signs of rules are mapped, or mapped to.
const odd = `valid 61..7A
valid 30..39
valid 2D..2E
shift 41..59 61 1
valid 5A # Z is no small letter, and stays
mapped 2A 61 # *
mapped 21 62 # !
mapped 24 2E # $
mapped 25 61 2E 62 # %
mapped 26 61 61 61 61 61 61 61 61 61 61 61 61 61 61 61 61 61 61 61 61 61 61 61 61 # &
mapped 28 2A
mapped 29 21
valid 7E
mapped 2B 78 6E 2D 2D
ignored 5F
valid E0..FE
deviation FF 73 2E 73
deviation DF 73 73
bidi 5D0..5EA R
valid 5D0..5EA
`

const base = "valid 61..7A\nvalid 30..39\nvalid 2D..2E\n"

// world is a table with an engine for each setting.
type world struct {
	name    string
	engines [64]*idna.Engine
}

func worldOf(t *testing.T, name string, l []api.Record) *world {
	t.Helper()
	d, at, e := ucd.Compile(l)
	if e != api.OK {
		t.Fatalf("%s: Compile: %d, %v", name, at, e)
	}
	w := &world{name: name}
	for flags := range w.engines {
		w.engines[flags], _ = idna.New(d, flags)
	}
	return w
}

func written(t *testing.T, name, text string) *world {
	t.Helper()
	l, at, e := table.Parse(text)
	if e != api.OK {
		t.Fatalf("%s: Parse: %v, %v", name, at, e)
	}
	return worldOf(t, name, l)
}

func houseWorld(t *testing.T) *world { return worldOf(t, "house", house.Table()) }

func oddWorld(t *testing.T) *world { return written(t, "odd", odd) }

func baseWorld(t *testing.T) *world { return written(t, "base", base) }

// strict is the engine of the chapter's examples, free the one that asks least.
func strict(t *testing.T) *idna.Engine { return houseWorld(t).engines[api.Strict] }

func free(t *testing.T) *idna.Engine { return houseWorld(t).engines[0] }

// rule is one by the chapter's words: as it is kept, and cut into labels.
type rule struct {
	text      string
	exception bool
	labels    []string
}

// list is rules in the order of their lines.
type list []rule

func (l list) texts() []string {
	own := []string{}
	for _, r := range l {
		own = append(own, r.text)
	}
	return own
}

// What may stand behind what is ahead of a rule.
var (
	someLabels = regexp.MustCompile(`^[a-z0-9-]+(\.[a-z0-9-]+)*$`)
	twoLabels  = regexp.MustCompile(`^[a-z0-9-]+(\.[a-z0-9-]+)+$`)
)

// ruled is a word's rule; one without a text, if it is none.
func ruled(e *idna.Engine, word string) rule {
	ahead, form := "", someLabels
	l := strings.Split(word, ".")
	switch {
	case word[0] == 0x21:
		ahead, form, l[0] = "!", twoLabels, l[0][1:]
	case len(l) == 1 && l[0] == "*":
		return rule{word, false, l}
	case l[0] == "*":
		ahead, l = "*.", l[1:]
	}
	a, set := e.ToASCII(strings.Join(l, "."))
	if set != 0 || !form.MatchString(a) || len(ahead+a) > 400 {
		return rule{}
	}
	return rule{ahead + a, ahead == "!", cut(strings.TrimPrefix(ahead+a, "!"))}
}

// wordsOf are where a line's words begin and end.
func wordsOf(line string) [][2]int {
	var l [][2]int
	within := false
	for i := range len(line) {
		blank := line[i] == 0x20 || line[i] == 9 || line[i] == 0xD
		switch {
		case line[i] == 0x23:
			return l
		case !blank && !within:
			l = append(l, [2]int{i, i + 1})
		case !blank:
			l[len(l)-1][1] = i + 1
		}
		within = !blank
	}
	return l
}

// placed is the place of a byte of s: the newlines ahead of it are counted, and the bytes from the last of them on.
func placed(s string, at int) api.Place {
	p := api.Place{At: at, Line: 1, Column: 1}
	for i := range at {
		p.Column++
		if s[i] == 0xA {
			p.Line, p.Column = p.Line+1, 1
		}
	}
	return p
}

// parsed is Parse.
func parsed(e *idna.Engine, s string) (list, api.Place, api.Errno) {
	if len(s) > 262144 {
		return nil, placed(s, 0), api.ErrLong
	}
	var l list
	for from := 0; from < len(s); {
		to := from
		for to < len(s) && s[to] != 0xA {
			to++
		}
		line := s[from:to]
		words := wordsOf(line)
		wrong := func(at int, e api.Errno) (list, api.Place, api.Errno) { return nil, placed(s, from+at), e }
		switch {
		case len(line) > 400:
			return wrong(400, api.ErrLong)
		case len(words) == 0:
			from = to + 1
			continue
		case len(l) >= 4096:
			return wrong(words[0][0], api.ErrMany)
		}
		own := ruled(e, line[words[0][0]:words[0][1]])
		switch {
		case own.text == "":
			return wrong(words[0][0], api.ErrRule)
		case len(words) > 1:
			return wrong(words[1][0], api.ErrWord)
		case slices.ContainsFunc(l, func(r rule) bool { return r.text == own.text }):
			return wrong(words[0][0], api.ErrTwice)
		}
		l = append(l, own)
		from = to + 1
	}
	return l, api.Place{}, api.OK
}

// inOrder are the rules in the order of their bytes.
func (l list) inOrder() []string {
	own := l.texts()
	sort.Slice(own, func(i, j int) bool {
		a, b := own[i], own[j]
		for k := range min(len(a), len(b)) {
			if a[k] != b[k] {
				return a[k] < b[k]
			}
		}
		return len(a) < len(b)
	})
	return own
}

// cut goes through a name's bytes one by one; each full stop begins another label.
func cut(s string) []string {
	if len(s) == 0 {
		return nil
	}
	l := []string{""}
	for i := range len(s) {
		if s[i] == 0x2E {
			l = append(l, "")
			continue
		}
		l[len(l)-1] += s[i : i+1]
	}
	return l
}

// alike is whether two labels are, A to Z read as a to z.
func alike(a, b string) bool {
	fold := func(c byte) int {
		if k := strings.IndexByte("ABCDEFGHIJKLMNOPQRSTUVWXYZ", c); k >= 0 {
			return int("abcdefghijklmnopqrstuvwxyz"[k])
		}
		return int(c)
	}
	if len(a) != len(b) {
		return false
	}
	for i := range len(a) {
		if fold(a[i]) != fold(b[i]) {
			return false
		}
	}
	return true
}

// holds is whether a rule does of a name with these labels.
func (r rule) holds(labels []string) bool {
	if len(labels) < len(r.labels) {
		return false
	}
	for i, own := range r.labels {
		if its := labels[len(labels)-len(r.labels)+i]; own != "*" && !alike(own, its) {
			return false
		}
	}
	return true
}

// suffix is Suffix.
func (l list) suffix(s string) int {
	labels := cut(s)
	if len(labels) == 0 {
		return 0
	}
	plain, spared := 0, 0
	for _, r := range l {
		switch {
		case !r.holds(labels):
		case r.exception:
			spared = max(spared, len(r.labels))
		default:
			plain = max(plain, len(r.labels))
		}
	}
	switch {
	case spared > 0:
		return spared - 1
	case plain > 0:
		return plain
	}
	return 1
}

// registrable is Registrable: it goes back from the name's end over as many full stops as the suffix has labels.
func (l list) registrable(s string) (string, bool) {
	n := l.suffix(s)
	if s == "" || strings.Count(s, ".") < n {
		return "", false
	}
	at := len(s)
	for stops := 0; at > 0; at-- {
		if s[at-1] == 0x2E {
			stops++
		}
		if stops > n {
			break
		}
	}
	return s[at:], true
}

// some is what of a text is worth showing.
func some(s string) string { return s[:min(len(s), 60)] }

// read is the rules of a text that must be taken.
func read(t *testing.T, e *idna.Engine, s string) *suffix.Rules {
	t.Helper()
	r, at, no := suffix.Parse(e, s)
	if r == nil || at != (api.Place{}) || no != api.OK {
		t.Fatalf("21.1: Parse of %q (%d bytes): %v, %d", some(s), len(s), at, int(no))
	}
	return r
}

// checkRefused: a text is refused with this error at this place.
func checkRefused(t *testing.T, e *idna.Engine, s string, want api.Errno, wantAt api.Place) {
	t.Helper()
	if r, at, no := suffix.Parse(e, s); r != nil || at != wantAt || no != want {
		t.Errorf("21.1: Parse of %q (%d bytes): %t, %v, %d, want %v, %d", some(s), len(s), r != nil, at, int(no), wantAt, int(want))
	}
}

// checkRules: the rules of a text are these, in this order.
func checkRules(t *testing.T, e *idna.Engine, s string, want ...string) {
	t.Helper()
	r := read(t, e, s)
	if l := r.All(); !slices.Equal(l, want) || r.Len() != len(want) {
		t.Errorf("21.2: the rules of %q: %q, %d, want %q", some(s), l, r.Len(), want)
	}
}

// holdText holds a text against the chapter's words; the rules, if it is taken.
func holdText(t *testing.T, e *idna.Engine, s string) (*suffix.Rules, list) {
	t.Helper()
	l, place, want := parsed(e, s)
	r, at, no := suffix.Parse(e, s)
	if at != place || no != want || (r == nil) != (want != api.OK) {
		t.Fatalf("21.1: flags %d: Parse of %q: %t, %v, %d, want %v, %d", e.Flags(), some(s), r != nil, at, int(no), place, int(want))
	}
	if r == nil {
		return nil, nil
	}
	if all := r.All(); !slices.Equal(all, l.inOrder()) || r.Len() != len(l) {
		t.Fatalf("21.2: flags %d: All of %q: %q, %d, want %q", e.Flags(), some(s), all, r.Len(), l.inOrder())
	}
	return r, l
}

// holdName holds a name against the chapter's words, and against 21.4 as far as it speaks of one list of rules.
func holdName(t *testing.T, r *suffix.Rules, l list, s string) {
	t.Helper()
	n, wantN := r.Suffix(s), l.suffix(s)
	if n != wantN {
		t.Fatalf("21.3: %q: Suffix(%q): %d, want %d", l.texts(), some(s), n, wantN)
	}
	if labels := len(cut(s)); n > labels || n < min(labels, 1) {
		t.Fatalf("21.4: %q: Suffix(%q): %d of %d labels", l.texts(), some(s), n, labels)
	}
	g, ok := r.Registrable(s)
	if want, wantOK := l.registrable(s); g != want || ok != wantOK {
		t.Fatalf("21.3: %q: Registrable(%q): %q, %t, want %q, %t", l.texts(), some(s), g, ok, want, wantOK)
	}
	if !ok {
		return
	}
	if again, is := r.Registrable(g); again != g || !is {
		t.Fatalf("21.4: %q: Registrable(%q), which is that of %q: %q, %t", l.texts(), g, some(s), again, is)
	}
}

// checkName is Suffix, and Registrable: the empty text is none.
func checkName(t *testing.T, r *suffix.Rules, s string, want int, wantText string) {
	t.Helper()
	if n := r.Suffix(s); n != want {
		t.Errorf("21.3: %q: Suffix(%q): %d, want %d", r.All(), some(s), n, want)
	}
	if g, ok := r.Registrable(s); g != wantText || ok != (wantText != "") {
		t.Errorf("21.3: %q: Registrable(%q): %q, %t, want %q", r.All(), some(s), g, ok, wantText)
	}
}

// allTexts are all texts of so many of these pieces at most.
func allTexts(pieces []string, most int) []string {
	l := []string{""}
	for from := 0; most > 0; most-- {
		upTo := len(l)
		for _, s := range l[from:upTo] {
			for _, piece := range pieces {
				l = append(l, s+piece)
			}
		}
		from = upTo
	}
	return l
}

// allNames are all names of one label to so many of these.
func allNames(labels []string, most int) []string {
	var l []string
	for _, s := range labels {
		l = append(l, s)
	}
	for from := 0; most > 1; most-- {
		upTo := len(l)
		for _, s := range l[from:upTo] {
			for _, label := range labels {
				l = append(l, label+"."+s)
			}
		}
		from = upTo
	}
	return l
}

func many(n int, s string) string { return strings.Repeat(s, n) }

func oneOf(draw *rand.Rand, l []string) string { return l[draw.IntN(len(l))] }
