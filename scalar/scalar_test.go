package scalar_test

import (
	"math"
	"math/rand/v2"
	"slices"
	"strings"
	"testing"

	"endonym/api"
	"endonym/scalar"
)

// edges are the last and the first number of each size in bytes, and of the gap.
var edges = []rune{0, 0x2E, 0x61, 0x7F, 0x80, 0xDF, 0x7FF, 0x800, 0x3002, 0xD7FF, 0xE000, 0xFFFD, 0xFFFF, 0x10000, 0x10FFFF}

// unsound are numbers that are no scalar values.
var unsound = []rune{-1, -0x80, math.MinInt32, 0xD800, 0xDBFF, 0xDC00, 0xDFFF, 0x110000, 0x1FFFFF, 0x200000, math.MaxInt32}

// edgeBytes are the first and the last byte of each class that the form of a number tells apart.
var edgeBytes = []byte{0x00, 0x7F, 0x80, 0x8F, 0x90, 0x9F, 0xA0, 0xBF, 0xC0, 0xC1, 0xC2, 0xDF, 0xE0, 0xE1, 0xEC, 0xED, 0xEE, 0xEF, 0xF0, 0xF1, 0xF3, 0xF4, 0xF5, 0xF7, 0xF8, 0xFF}

// written is the bytes of c as 3.2 says them, by sums alone.
func written(c rune) string {
	low := func(shift int) byte { return byte(0x80 + c>>shift%0x40) }
	switch {
	case c < 0x80:
		return string([]byte{byte(c)})
	case c < 0x800:
		return string([]byte{byte(0xC0 + c>>6), low(0)})
	case c < 0x10000:
		return string([]byte{byte(0xE0 + c>>12), low(6), low(0)})
	}
	return string([]byte{byte(0xF0 + c>>18), low(12), low(6), low(0)})
}

// reader knows the form of every scalar value and every beginning of one.
type reader struct {
	forms  map[string]rune
	begins map[string]bool
}

func newReader() reader {
	r := reader{map[string]rune{}, map[string]bool{}}
	for c := rune(0); c <= 0x10FFFF; c++ {
		if c >= 0xD800 && c <= 0xDFFF {
			continue
		}
		s := written(c)
		r.forms[s] = c
		for i := 1; i < len(s); i++ {
			r.begins[s[:i]] = true
		}
	}
	return r
}

// read is 3.2 word by word: the sequence, or the least place such that the bytes up to it begin no text.
func (r reader) read(s string) ([]rune, int, api.Errno) {
	var x []rune
	from := 0
	for end := 1; end <= len(s); end++ {
		piece := s[from:end]
		if c, ok := r.forms[piece]; ok {
			x = append(x, c)
			from = end
		} else if !r.begins[piece] {
			return nil, end - 1, api.ErrUTF
		}
	}
	if from < len(s) {
		return nil, len(s), api.ErrUTF
	}
	return x, 0, api.OK
}

func checkDecode(t *testing.T, r reader, s string) {
	t.Helper()
	want, wantAt, wantE := r.read(s)
	x, at, e := scalar.Decode(s)
	if !slices.Equal(x, want) || at != wantAt || e != wantE {
		t.Fatalf("Decode(% X): %X, %d, %d, want %X, %d, %d", s, x, at, e, want, wantAt, wantE)
	}
}

// draws are sound sequences, the same each time.
func draws(n int) [][]rune {
	draw := rand.New(rand.NewPCG(3, 3))
	l := [][]rune{nil, edges}
	for range n {
		x := make([]rune, draw.IntN(12))
		for i := range x {
			x[i] = edges[draw.IntN(len(edges))]
			if c := rune(draw.IntN(0x110000)) >> draw.IntN(21); draw.IntN(2) == 0 && (c < 0xD800 || c > 0xDFFF) {
				x[i] = c
			}
		}
		l = append(l, x)
	}
	return l
}

func TestValidAndSound(t *testing.T) {
	for c := rune(-0x20000); c < 0x220000; c++ {
		want := c >= 0 && c <= 0xD7FF || c >= 0xE000 && c <= 0x10FFFF
		if scalar.Valid(c) != want {
			t.Fatalf("3.1: Valid(%X) is %v", c, !want)
		}
	}
	if !scalar.Sound(nil) || !scalar.Sound([]rune{}) || !scalar.Sound(edges) {
		t.Error("3.1: Sound of scalar values")
	}
	for _, c := range unsound {
		if scalar.Valid(c) {
			t.Errorf("3.1: Valid(%X)", c)
		}
		for i := range len(edges) + 1 {
			if scalar.Sound(slices.Insert(slices.Clone(edges), i, c)) {
				t.Errorf("3.1: Sound with %X at %d", c, i)
			}
		}
	}
}

func TestASCII(t *testing.T) {
	var all []rune
	for c := rune(0); c < 0x80; c++ {
		all = append(all, c)
	}
	if !scalar.ASCII(nil) || !scalar.ASCII([]rune{}) || !scalar.ASCII(all) {
		t.Error("3.1: ASCII of 0 to 7F, or of none")
	}
	for _, c := range append([]rune{0x80, 0xDF, 0x7FF, 0x10FFFF, -0x7F, 0x100000 + 0x61}, unsound...) {
		for _, x := range [][]rune{{c}, {c, 0x61}, {0x61, c}, {0x61, c, 0x61}} {
			if scalar.ASCII(x) {
				t.Errorf("3.1: ASCII(%X)", x)
			}
		}
	}
}

func TestDecodeExamples(t *testing.T) {
	for _, c := range []struct {
		s  string
		x  []rune
		at int
		e  api.Errno
	}{
		{"", nil, 0, api.OK},
		{"\x00", []rune{0}, 0, api.OK},
		{"a\xC3\x9F", []rune{0x61, 0xDF}, 0, api.OK},
		{"\x7F\xC2\x80\xDF\xBF\xE0\xA0\x80", []rune{0x7F, 0x80, 0x7FF, 0x800}, 0, api.OK},
		{"\xED\x9F\xBF\xEE\x80\x80\xEF\xBF\xBF", []rune{0xD7FF, 0xE000, 0xFFFF}, 0, api.OK},
		{"\xF0\x90\x80\x80\xF4\x8F\xBF\xBF", []rune{0x10000, 0x10FFFF}, 0, api.OK},
		{"\xEF\xBF\xBD", []rune{0xFFFD}, 0, api.OK},
		{"\xC0\x80", nil, 0, api.ErrUTF},
		{"\xC1\xBF", nil, 0, api.ErrUTF},
		{"\xE0\x80\x80", nil, 1, api.ErrUTF},
		{"\xE0\x9F\xBF", nil, 1, api.ErrUTF},
		{"\xF0\x80\x80\x80", nil, 1, api.ErrUTF},
		{"\xF0\x8F\xBF\xBF", nil, 1, api.ErrUTF},
		{"\xED\xA0\x80", nil, 1, api.ErrUTF},
		{"\xED\xBF\xBF", nil, 1, api.ErrUTF},
		{"\xF4\x90\x80\x80", nil, 1, api.ErrUTF},
		{"\xF5\x80\x80\x80", nil, 0, api.ErrUTF},
		{"\xF8\x88\x80\x80\x80", nil, 0, api.ErrUTF},
		{"\xFF", nil, 0, api.ErrUTF},
		{"a\x80", nil, 1, api.ErrUTF},
		{"\xC3\x9F\x9F", nil, 2, api.ErrUTF},
		{"\xC3A", nil, 1, api.ErrUTF},
		{"\xC3\xC3", nil, 1, api.ErrUTF},
		{"\xE2\x82\xE2", nil, 2, api.ErrUTF},
		{"\xF0\x9F\x98A", nil, 3, api.ErrUTF},
		{"\xC3", nil, 1, api.ErrUTF},
		{"\xE2", nil, 1, api.ErrUTF},
		{"\xE2\x82", nil, 2, api.ErrUTF},
		{"\xF0", nil, 1, api.ErrUTF},
		{"\xF0\x9F", nil, 2, api.ErrUTF},
		{"ab\xF0\x9F\x98", nil, 5, api.ErrUTF},
	} {
		x, at, e := scalar.Decode(c.s)
		if !slices.Equal(x, c.x) || at != c.at || e != c.e {
			t.Errorf("3.2: Decode(% X): %X, %d, %d, want %X, %d, %d", c.s, x, at, e, c.x, c.at, c.e)
		}
	}
}

// All texts of up to two bytes, all of up to four of the bytes where something begins or ends, each alone and behind others.
func TestDecodeByTheWords(t *testing.T) {
	r := newReader()
	for a := range 0x100 {
		checkDecode(t, r, string([]byte{byte(a)}))
		for b := range 0x100 {
			checkDecode(t, r, string([]byte{byte(a), byte(b)}))
		}
	}
	for _, a := range edgeBytes {
		for _, b := range edgeBytes {
			for _, c := range edgeBytes {
				checkDecode(t, r, string([]byte{a, b, c}))
				checkDecode(t, r, "z\xF4\x8F\xBF\xBF"+string([]byte{a, b, c}))
				for _, d := range edgeBytes {
					checkDecode(t, r, string([]byte{a, b, c, d}))
				}
			}
		}
	}
}

// One byte of a right text is turned, dropped, or laid beside it.
func TestDecodeOfSpoiltTexts(t *testing.T) {
	r := newReader()
	for _, x := range draws(300) {
		s := ""
		for _, c := range x {
			s += written(c)
		}
		checkDecode(t, r, s)
		for i := range len(s) {
			checkDecode(t, r, s[:i])
			checkDecode(t, r, s[i:])
			checkDecode(t, r, s[:i]+s[i+1:])
			for _, b := range edgeBytes {
				checkDecode(t, r, s[:i]+string([]byte{b})+s[i:])
				checkDecode(t, r, s[:i]+string([]byte{b})+s[i+1:])
			}
		}
	}
}

func TestEncode(t *testing.T) {
	if s, at, e := scalar.Encode(nil); s != "" || at != 0 || e != api.OK || scalar.Bytes(nil) != 0 {
		t.Error("3.3: Encode of none")
	}
	for c := rune(0); c <= 0x10FFFF; c++ {
		if c >= 0xD800 && c <= 0xDFFF {
			continue
		}
		x := []rune{c, 0x61}
		s, at, e := scalar.Encode(x)
		if s != written(c)+"a" || at != 0 || e != api.OK {
			t.Fatalf("3.3: Encode(%X): % X, %d, %d", x, s, at, e)
		}
		if scalar.Bytes(x) != len(s) {
			t.Fatalf("3.3: Bytes(%X): %d", x, scalar.Bytes(x))
		}
		if back, at, e := scalar.Decode(s); !slices.Equal(back, x) || at != 0 || e != api.OK {
			t.Fatalf("3.5: Decode(% X): %X, %d, %d", s, back, at, e)
		}
	}
}

func TestEncodeRefuses(t *testing.T) {
	refused := func(x []rune, place int) {
		t.Helper()
		if s, at, e := scalar.Encode(x); s != "" || at != place || e != api.ErrScalar {
			t.Errorf("3.3: Encode(%X): % X, %d, %d, want ErrScalar at %d", x, s, at, e, place)
		}
		if n := scalar.Bytes(x); n != -1 {
			t.Errorf("3.3: Bytes(%X): %d", x, n)
		}
	}
	for _, c := range unsound {
		refused([]rune{c}, 0)
		refused([]rune{c, c}, 0)
		for i := range len(edges) + 1 {
			x := slices.Insert(slices.Clone(edges), i, c)
			refused(x, i)
			refused(append(x, -1, 0xD800), i)
		}
	}
}

func TestSplitAndJoinExamples(t *testing.T) {
	for _, c := range []struct {
		x []rune
		l [][]rune
	}{
		{nil, [][]rune{nil}},
		{[]rune{0x2E}, [][]rune{nil, nil}},
		{[]rune{0x2E, 0x2E}, [][]rune{nil, nil, nil}},
		{[]rune{0x61}, [][]rune{{0x61}}},
		{[]rune{0x61, 0x2E}, [][]rune{{0x61}, nil}},
		{[]rune{0x2E, 0x61}, [][]rune{nil, {0x61}}},
		{[]rune{0x61, 0x2E, 0x2E, 0x62}, [][]rune{{0x61}, nil, {0x62}}},
		{[]rune{0x61, 0x62, 0x2E, 0x63}, [][]rune{{0x61, 0x62}, {0x63}}},
		{[]rune{0x3002, 0xFF0E, 0xFF61, 0x12E, -0x2E}, [][]rune{{0x3002, 0xFF0E, 0xFF61, 0x12E, -0x2E}}},
		{[]rune{-1, 0x2E, 0xD800, 0x110000}, [][]rune{{-1}, {0xD800, 0x110000}}},
	} {
		if l := scalar.Split(c.x); !slices.EqualFunc(l, c.l, slices.Equal[[]rune]) {
			t.Errorf("3.4: Split(%X): %X", c.x, l)
		}
		if x := scalar.Join(c.l); !slices.Equal(x, c.x) {
			t.Errorf("3.4: Join(%X): %X", c.l, x)
		}
	}
	for _, l := range [][][]rune{nil, {}} {
		if x := scalar.Join(l); len(x) != 0 {
			t.Errorf("3.4: Join of none: %X", x)
		}
	}
	if x := scalar.Join([][]rune{{0x2E}, {0x61, 0x2E}}); !slices.Equal(x, []rune{0x2E, 0x2E, 0x61, 0x2E}) {
		t.Errorf("3.4: Join of lists with full stops: %X", x)
	}
}

func TestThereAndBack(t *testing.T) {
	texts := map[string][]rune{}
	for _, x := range draws(20000) {
		s, _, e := scalar.Encode(x)
		if e != api.OK || scalar.Bytes(x) != len(s) {
			t.Fatalf("3.5: Encode(%X): % X, %d", x, s, e)
		}
		back, _, e := scalar.Decode(s)
		if e != api.OK || !slices.Equal(back, x) {
			t.Fatalf("3.5: Decode(Encode(%X)): %X, %d", x, back, e)
		}
		if old, ok := texts[s]; ok && !slices.Equal(old, x) {
			t.Fatalf("3.5: %X and %X have one text", x, old)
		}
		texts[s] = x
	}
}

// Each text that is taken is the one that Encode tells of what was read: so no two are read as one.
func TestBackAndThere(t *testing.T) {
	taken := 0
	var try func(s string, more int)
	try = func(s string, more int) {
		if x, _, e := scalar.Decode(s); e == api.OK {
			taken++
			if back, _, e := scalar.Encode(x); e != api.OK || back != s {
				t.Fatalf("3.5: Encode(Decode(% X)): % X, %d", s, back, e)
			}
		}
		if more == 0 {
			return
		}
		for _, b := range edgeBytes {
			try(s+string([]byte{b}), more-1)
		}
	}
	try("", 4)
	if taken < 1000 {
		t.Errorf("3.5: only %d texts were taken", taken)
	}
}

// goneOn is whether some bytes behind s make a text of it.
func goneOn(s string) bool {
	for _, tail := range []string{"", "\x80", "\xA0", "\x90"} {
		for _, rest := range []string{"", "\x80", "\x80\x80"} {
			if _, _, e := scalar.Decode(s + tail + rest); e == api.OK {
				return true
			}
		}
	}
	return false
}

func TestPlaceOfTheFault(t *testing.T) {
	told := 0
	for _, a := range edgeBytes {
		for _, b := range edgeBytes {
			for _, c := range edgeBytes {
				s := "\xC3\x9F" + string([]byte{a, b, c})
				_, at, e := scalar.Decode(s)
				if e == api.OK {
					continue
				}
				told++
				if at < 2 || at > len(s) || !goneOn(s[:at]) {
					t.Fatalf("3.6: Decode(% X) tells %d, ahead of which stands no beginning", s, at)
				}
				if at < len(s) && goneOn(s[:at+1]) {
					t.Fatalf("3.6: Decode(% X) tells %d, and can be gone on with behind it", s, at)
				}
			}
		}
	}
	if told < 1000 {
		t.Errorf("3.6: only %d places were told", told)
	}
}

func TestCutAndJoined(t *testing.T) {
	for _, x := range draws(5000) {
		l := scalar.Split(x)
		stops := 0
		for _, c := range x {
			if c == 0x2E {
				stops++
			}
		}
		if len(l) != stops+1 {
			t.Fatalf("3.4: Split(%X) has %d lists", x, len(l))
		}
		if back := scalar.Join(l); !slices.Equal(back, x) {
			t.Fatalf("3.7: Join(Split(%X)): %X", x, back)
		}
		for _, piece := range l {
			if slices.Contains(piece, 0x2E) {
				t.Fatalf("3.4: Split(%X): %X", x, l)
			}
		}
		if back := scalar.Split(scalar.Join(l)); !slices.EqualFunc(back, l, slices.Equal[[]rune]) {
			t.Fatalf("3.7: Split(Join(%X)): %X", l, back)
		}
	}
}

func TestDecodeCuts(t *testing.T) {
	l := draws(2000)
	for i := range l[1:] {
		a, b := l[i], l[i+1]
		s, _, _ := scalar.Encode(a)
		u, _, _ := scalar.Encode(b)
		if x, at, e := scalar.Decode(s + u); !slices.Equal(x, slices.Concat(a, b)) || at != 0 || e != api.OK {
			t.Fatalf("3.7: Decode of % X and % X: %X, %d, %d", s, u, x, at, e)
		}
	}
}

func TestLongTexts(t *testing.T) {
	const n = 100_000
	for _, c := range edges {
		s := strings.Repeat(written(c), n)
		x, at, e := scalar.Decode(s)
		if len(x) != n || at != 0 || e != api.OK || x[0] != c || x[n-1] != c || scalar.Bytes(x) != len(s) {
			t.Errorf("3.2: Decode of many %X: %d of them, %d, %d", c, len(x), at, e)
		}
		if back, _, _ := scalar.Encode(x); back != s {
			t.Errorf("3.3: Encode of many %X", c)
		}
		if x, at, e := scalar.Decode(s + "\xFFa"); len(x) != 0 || at != len(s) || e != api.ErrUTF {
			t.Errorf("3.2: Decode of many %X and a bad byte: %d, %d", c, at, e)
		}
	}
}

// overwrite fills a list and its spare room.
func overwrite(x []rune, c rune) {
	x = x[:cap(x)]
	for i := range x {
		x[i] = c
	}
}

func TestSplitTellsNewMemory(t *testing.T) {
	room := []rune{0x61, 0x2E, 0x2E, 0x62, 0x63, 0x2E, 0x64, 0x65, 0x66}
	x := room[:6]
	before := slices.Clone(room)
	want := [][]rune{{0x61}, nil, {0x62, 0x63}, nil}
	l := scalar.Split(x)
	for i := range l {
		others := slices.Clone(l)
		overwrite(l[i], 0x7A)
		for j, piece := range others {
			if j > i && !slices.Equal(piece, want[j]) {
				t.Errorf("writing over list %d changes list %d: %X", i, j, piece)
			}
		}
	}
	if !slices.Equal(room, before) {
		t.Errorf("writing over what Split tells changes what was handed in: %X", room)
	}
	l = scalar.Split(x)
	overwrite(x, 0x7A)
	if !slices.EqualFunc(l, want, slices.Equal[[]rune]) {
		t.Errorf("writing over what was handed in changes what Split tells: %X", l)
	}
}

func TestJoinTellsNewMemory(t *testing.T) {
	for _, n := range []int{1, 2, 3} {
		var rooms, befores, l [][]rune
		for i := range n {
			room := []rune{0x61 + rune(i), 0x62, 0x63, 0x64, 0x65, 0x66, 0x67, 0x68}
			rooms = append(rooms, room)
			befores = append(befores, slices.Clone(room))
			l = append(l, room[:1])
		}
		x := scalar.Join(l)
		want := slices.Clone(x)
		overwrite(x, 0x7A)
		if !slices.EqualFunc(rooms, befores, slices.Equal[[]rune]) {
			t.Errorf("Join of %d lists, or writing over what it tells, changes what was handed in: %X", n, rooms)
		}
		x = scalar.Join(l)
		for _, room := range rooms {
			overwrite(room, 0x7A)
		}
		if !slices.Equal(x, want) {
			t.Errorf("writing over what was handed in changes what Join of %d lists tells: %X", n, x)
		}
	}
}

func TestNothingHandedInChanges(t *testing.T) {
	room := append(slices.Clone(edges), 0xD800, -1, 0x2E)
	before := slices.Clone(room)
	for n := range len(room) + 1 {
		x := room[:n]
		scalar.Sound(x)
		scalar.ASCII(x)
		scalar.Encode(x)
		scalar.Bytes(x)
		scalar.Split(x)
		scalar.Join([][]rune{x, x})
		if !slices.Equal(room, before) {
			t.Fatalf("a call changes what was handed in: %X", room)
		}
	}
}

func TestDecodeTellsNewMemory(t *testing.T) {
	s := "a\xC3\x9F.b"
	x, _, _ := scalar.Decode(s)
	overwrite(x, 0x7A)
	if y, _, _ := scalar.Decode(s); !slices.Equal(y, []rune{0x61, 0xDF, 0x2E, 0x62}) {
		t.Errorf("writing over what Decode tells changes what it tells next: %X", y)
	}
}
