package pack_test

import (
	"bytes"
	"fmt"
	"math"
	"math/rand/v2"
	"slices"
	"strconv"
	"strings"
	"testing"

	"endonym/api"
	"endonym/pack"
	"endonym/table"
	"endonym/wire"
)

// behind is what each kind has behind its byte, by parts that one Read reads: n a number, s the length of a list (its numbers follow), t a text, f a float.
var behind = [...]string{
	api.KValid: "nn", api.KIgnored: "nn", api.KMapped: "nns", api.KShift: "nnnn", api.KDeviation: "ns",
	api.KClass: "nnn", api.KDecomp: "ns", api.KOpens: "ns", api.KBidi: "nnn", api.KJoin: "nnn",
	api.KMark: "nn", api.KScript: "nnt", api.KLooks: "ns", api.KWeight: "nnf", api.KMix: "ttf",
}

// far is 24 numbers at the far end, and farBytes how they are packed.
var far = slices.Repeat([]rune{0x10FFFF}, 24)

const farBytes = "|FF FF 43|FF FF 43|FF FF 43|FF FF 43|FF FF 43|FF FF 43|FF FF 43|FF FF 43|FF FF 43|FF FF 43|FF FF 43|FF FF 43" +
	"|FF FF 43|FF FF 43|FF FF 43|FF FF 43|FF FF 43|FF FF 43|FF FF 43|FF FF 43|FF FF 43|FF FF 43|FF FF 43|FF FF 43"

// rows are right records with their bytes, the parts cut off from each other: each kind, each field at its least and its greatest.
var rows = []struct {
	r     api.Record
	parts string
}{
	{api.Record{Kind: api.KValid, Lo: 0x61, Hi: 0x7A}, "1|61|19"},
	{api.Record{Kind: api.KValid}, "1|0|0"},
	{api.Record{Kind: api.KValid, Hi: 0x10FFFF}, "1|0|FF FF 43"},
	{api.Record{Kind: api.KValid, Lo: 0x10FFFF, Hi: 0x10FFFF}, "1|FF FF 43|0"},
	{api.Record{Kind: api.KIgnored, Lo: 0xAD, Hi: 0xAD}, "2|AD 1|0"},
	{api.Record{Kind: api.KIgnored, Lo: 0xD800, Hi: 0xDFFF}, "2|80 B0 3|FF F"},
	{api.Record{Kind: api.KIgnored, Hi: 0x10FFFF}, "2|0|FF FF 43"},
	{api.Record{Kind: api.KMapped, Lo: 0x41, Hi: 0x41, To: []rune{0x61, 0x62}}, "3|41|0|2|61|62"},
	{api.Record{Kind: api.KMapped, To: []rune{0}}, "3|0|0|1|0"},
	{api.Record{Kind: api.KMapped, Hi: 0x10FFFF, To: far}, "3|0|FF FF 43|18" + farBytes},
	{api.Record{Kind: api.KShift, Lo: 0x41, Hi: 0x5A, N: 1, To: []rune{0x61}}, "4|41|19|1|61"},
	{api.Record{Kind: api.KShift, N: 64, To: []rune{0}}, "4|0|0|40|0"},
	{api.Record{Kind: api.KShift, Lo: 0x10FFFF, Hi: 0x10FFFF, N: 2, To: []rune{0x10FFFF}}, "4|FF FF 43|0|2|FF FF 43"},
	{api.Record{Kind: api.KShift, Hi: 0x101FFF, N: 3, To: []rune{0xE000}}, "4|0|FF BF 40|3|80 C0 3"},
	{api.Record{Kind: api.KDeviation, Lo: 0x200C, Hi: 0x200C}, "5|8C 40|0"},
	{api.Record{Kind: api.KDeviation, Lo: 0xDF, Hi: 0xDF, To: []rune{0x73, 0x74}}, "5|DF 1|2|73|74"},
	{api.Record{Kind: api.KDeviation}, "5|0|0"},
	{api.Record{Kind: api.KDeviation, Lo: 0x10FFFF, Hi: 0x10FFFF, To: far}, "5|FF FF 43|18" + farBytes},
	{api.Record{Kind: api.KClass, Lo: 0x300, Hi: 0x314, N: 230}, "6|80 6|14|E6 1"},
	{api.Record{Kind: api.KClass, N: 1}, "6|0|0|1"},
	{api.Record{Kind: api.KClass, Hi: 0x10FFFF, N: 254}, "6|0|FF FF 43|FE 1"},
	{api.Record{Kind: api.KDecomp, Lo: 0xC0, Hi: 0xC0, To: []rune{0x41, 0x300}}, "7|C0 1|2|41|80 6"},
	{api.Record{Kind: api.KDecomp, To: []rune{0, 0}}, "7|0|2|0|0"},
	{api.Record{Kind: api.KDecomp, Lo: 0x10FFFF, Hi: 0x10FFFF, To: far[:2]}, "7|FF FF 43|2|FF FF 43|FF FF 43"},
	{api.Record{Kind: api.KOpens, Lo: 0x340, Hi: 0x340, To: []rune{0x300}}, "8|C0 6|1|80 6"},
	{api.Record{Kind: api.KOpens, To: []rune{0}}, "8|0|1|0"},
	{api.Record{Kind: api.KOpens, Lo: 0x10FFFF, Hi: 0x10FFFF, To: far[:2]}, "8|FF FF 43|2|FF FF 43|FF FF 43"},
	{api.Record{Kind: api.KBidi, Lo: 0x5D0, Hi: 0x5EA, N: api.R}, "9|D0 B|1A|1"},
	{api.Record{Kind: api.KBidi, N: api.L}, "9|0|0|0"},
	{api.Record{Kind: api.KBidi, Hi: 0x10FFFF, N: api.NSM}, "9|0|FF FF 43|A"},
	{api.Record{Kind: api.KJoin, Lo: 0x628, Hi: 0x628, N: api.JoinD}, "A|A8 C|0|3"},
	{api.Record{Kind: api.KJoin, N: api.JoinU}, "A|0|0|0"},
	{api.Record{Kind: api.KJoin, Hi: 0x10FFFF, N: api.JoinT}, "A|0|FF FF 43|5"},
	{api.Record{Kind: api.KMark, Lo: 0x300, Hi: 0x36F}, "B|80 6|6F"},
	{api.Record{Kind: api.KMark}, "B|0|0"},
	{api.Record{Kind: api.KMark, Hi: 0x10FFFF}, "B|0|FF FF 43"},
	{api.Record{Kind: api.KScript, Lo: 0x41, Hi: 0x5A, Name: "Latn"}, "C|41|19|4 4C 61 74 6E"},
	{api.Record{Kind: api.KScript, Name: "Aaaa"}, "C|0|0|4 41 61 61 61"},
	{api.Record{Kind: api.KScript, Hi: 0x10FFFF, Name: "Zzzz"}, "C|0|FF FF 43|4 5A 7A 7A 7A"},
	{api.Record{Kind: api.KLooks, Lo: 0x43E, Hi: 0x43E, To: []rune{0x6F}}, "D|BE 8|1|6F"},
	{api.Record{Kind: api.KLooks, To: []rune{0}}, "D|0|1|0"},
	{api.Record{Kind: api.KLooks, Lo: 0x10FFFF, Hi: 0x10FFFF, To: far}, "D|FF FF 43|18" + farBytes},
	{api.Record{Kind: api.KWeight, Lo: 0x41, Hi: 0x42, Weight: 0.25}, "E|41|1|0 0 0 0 0 0 D0 3F"},
	{api.Record{Kind: api.KWeight}, "E|0|0|0 0 0 0 0 0 0 0"},
	{api.Record{Kind: api.KWeight, Lo: 1, Hi: 1, Weight: math.SmallestNonzeroFloat64}, "E|1|0|1 0 0 0 0 0 0 0"},
	{api.Record{Kind: api.KWeight, Lo: 1, Hi: 1, Weight: math.MaxFloat64}, "E|1|0|FF FF FF FF FF FF EF 7F"},
	{api.Record{Kind: api.KWeight, Hi: 0x10FFFF, Weight: math.Inf(1)}, "E|0|FF FF 43|0 0 0 0 0 0 F0 7F"},
	{api.Record{Kind: api.KMix, Name: "Latn", Other: "Cyrl", Weight: 8}, "F|4 4C 61 74 6E|4 43 79 72 6C|0 0 0 0 0 0 20 40"},
	{api.Record{Kind: api.KMix, Name: "Aaaa", Other: "Zzzz"}, "F|4 41 61 61 61|4 5A 7A 7A 7A|0 0 0 0 0 0 0 0"},
	{api.Record{Kind: api.KMix, Name: "Zzzz", Other: "Aaaa", Weight: math.Inf(1)}, "F|4 5A 7A 7A 7A|4 41 61 61 61|0 0 0 0 0 0 F0 7F"},
}

// all is a table of every kind.
const all = "valid 61..7A\nignored AD\nmapped 41 61 62\nshift 100..17E 101 2\ndeviation 200C\ndeviation DF 73 73\nclass 300..314 230\n" +
	"decomp C0 41 300\nopens 340 300\nbidi 5D0..5EA R\njoin 628 D\nmark 300\nscript 41..5A Latn\nlooks 43E 6F\nweight 41 25e-2\nmix Latn Cyrl inf\n"

func parsed(t *testing.T, s string) []api.Record {
	t.Helper()
	l, at, e := table.Parse(s)
	if e != api.OK {
		t.Fatalf("Parse of %q: %v, %v", s, at, e)
	}
	return l
}

// partsOf is the bytes of each part.
func partsOf(s string) [][]byte {
	var parts [][]byte
	for part := range strings.SplitSeq(s, "|") {
		var b []byte
		for word := range strings.FieldsSeq(part) {
			n, err := strconv.ParseUint(word, 16, 8)
			if err != nil {
				panic(err)
			}
			b = append(b, byte(n))
		}
		parts = append(parts, b)
	}
	return parts
}

// formOf is the letter of each part behind the kind's byte.
func formOf(kind, parts int) string {
	form := behind[kind]
	return form + strings.Repeat("n", parts-1-len(form))
}

// summed is bytes with their sum behind them.
func summed(parts ...[]byte) []byte {
	b := slices.Concat(parts...)
	u := wire.Sum(b)
	return append(b, byte(u), byte(u>>8), byte(u>>16), byte(u>>24))
}

// packed is so many records as packed bytes, of parts that need not be right.
func packed(count int, parts ...[]byte) []byte {
	return summed([]byte("endo\x01"), wire.Uint(count), slices.Concat(parts...))
}

// modelWrite is a record's bytes, by the chapter's table.
func modelWrite(r api.Record) []byte {
	uint := func(n int) []byte {
		b := []byte{byte(n & 127)}
		for n >>= 7; n > 0; n >>= 7 {
			b[len(b)-1] += 128
			b = append(b, byte(n&127))
		}
		return b
	}
	text := func(s string) []byte { return append([]byte{byte(len(s))}, s...) }
	var float []byte
	for i := range 8 {
		float = append(float, byte(math.Float64bits(r.Weight)>>(8*i)))
	}
	span := append(uint(r.Lo), uint(r.Hi-r.Lo)...)
	list := uint(len(r.To))
	for _, c := range r.To {
		list = append(list, uint(int(c))...)
	}
	b := []byte{byte(r.Kind)}
	switch r.Kind {
	case api.KValid, api.KIgnored, api.KMark:
		return slices.Concat(b, span)
	case api.KMapped:
		return slices.Concat(b, span, list)
	case api.KShift:
		return slices.Concat(b, span, uint(r.N), uint(int(r.To[0])))
	case api.KDeviation, api.KDecomp, api.KOpens, api.KLooks:
		return slices.Concat(b, uint(r.Lo), list)
	case api.KClass, api.KBidi, api.KJoin:
		return slices.Concat(b, span, uint(r.N))
	case api.KScript:
		return slices.Concat(b, span, text(r.Name))
	case api.KWeight:
		return slices.Concat(b, span, float)
	case api.KMix:
		return slices.Concat(b, text(r.Name), text(r.Other), float)
	}
	panic("no kind")
}

// modelPack is 8.1.
func modelPack(l []api.Record) ([]byte, int, api.Errno) {
	if at, e := table.Check(l); e != api.OK {
		return nil, at, e
	}
	var parts [][]byte
	for _, r := range l {
		parts = append(parts, modelWrite(r))
	}
	b := packed(len(l), parts...)
	if len(b) > 262144 {
		return nil, 0, api.ErrLong
	}
	return b, 0, api.OK
}

// fault is how the model stops.
type fault struct {
	at int
	e  api.Errno
}

// modelReader reads from the left, part by part.
type modelReader struct {
	b  []byte
	at int
}

func (m *modelReader) number(most int) int {
	n, next, e := wire.ReadUint(m.b, m.at)
	if e != api.OK {
		panic(fault{m.at, e})
	}
	if n > most {
		panic(fault{m.at, api.ErrField})
	}
	m.at = next
	return n
}

func (m *modelReader) text() string {
	s, next, e := wire.ReadText(m.b, m.at, 4)
	if e != api.OK {
		panic(fault{m.at, e})
	}
	m.at = next
	return s
}

func (m *modelReader) float() float64 {
	f, next, e := wire.ReadFloat(m.b, m.at)
	if e != api.OK {
		panic(fault{m.at, e})
	}
	m.at = next
	return f
}

// record reads by the letters of behind, and gives out what was read by the kind.
func (m *modelReader) record() api.Record {
	if m.at >= len(m.b) {
		panic(fault{m.at, api.ErrShort})
	}
	kind := int(m.b[m.at])
	if kind < 1 || kind > 15 {
		panic(fault{m.at, api.ErrKind})
	}
	m.at++
	r := api.Record{Kind: kind}
	var numbers []int
	var texts []string
	for _, form := range behind[kind] {
		switch form {
		case 'n':
			numbers = append(numbers, m.number(0x10FFFF))
		case 's':
			for range m.number(24) {
				r.To = append(r.To, rune(m.number(0x10FFFF)))
			}
		case 't':
			texts = append(texts, m.text())
		case 'f':
			r.Weight = m.float()
		}
	}
	switch len(numbers) {
	case 1:
		r.Lo, r.Hi = numbers[0], numbers[0]
	case 2:
		r.Lo, r.Hi = numbers[0], numbers[0]+numbers[1]
	case 3:
		r.Lo, r.Hi, r.N = numbers[0], numbers[0]+numbers[1], numbers[2]
	case 4:
		r.Lo, r.Hi, r.N, r.To = numbers[0], numbers[0]+numbers[1], numbers[2], []rune{rune(numbers[3])}
	}
	if len(texts) > 0 {
		r.Name = texts[0]
	}
	if len(texts) > 1 {
		r.Other = texts[1]
	}
	return r
}

// modelUnpack is 8.2, word by word.
func modelUnpack(b []byte) (l []api.Record, at int, e api.Errno) {
	defer func() {
		if f, ok := recover().(fault); ok {
			l, at, e = nil, f.at, f.e
		}
	}()
	n := len(b) - 4
	switch {
	case len(b) > 262144:
		return nil, 0, api.ErrLong
	case len(b) < 10:
		return nil, len(b), api.ErrShort
	case !bytes.Equal(summed(b[:n]), b):
		return nil, n, api.ErrSum
	case !bytes.HasPrefix(b, []byte("endo")):
		return nil, 0, api.ErrForm
	case b[4] != 1:
		return nil, 4, api.ErrForm
	}
	m := &modelReader{b: b[:n], at: 5}
	count := 0
	func() {
		defer func() {
			if f, ok := recover().(fault); ok && f.e == api.ErrField {
				f.e = api.ErrMany
				panic(f)
			} else if ok {
				panic(f)
			}
		}()
		count = m.number(4096)
	}()
	var begins []int
	for range count {
		begins = append(begins, m.at)
		l = append(l, m.record())
	}
	if m.at < n {
		return nil, m.at, api.ErrTail
	}
	if i, e := table.Check(l); e != api.OK {
		return nil, begins[i], e
	}
	return l, 0, api.OK
}

// checkPack holds Pack against the model; of what it takes Unpack must tell the table.
func checkPack(t *testing.T, l []api.Record) ([]byte, api.Errno) {
	t.Helper()
	b, at, e := pack.Pack(l)
	want, wantAt, wantE := modelPack(l)
	if !bytes.Equal(b, want) || at != wantAt || e != wantE {
		t.Fatalf("8.1: Pack of %d records %.300v: % .200X, %d, %v, want % .200X, %d, %v", len(l), l, b, at, e, want, wantAt, wantE)
	}
	if e != api.OK {
		return nil, e
	}
	if m, at, e := pack.Unpack(b); !table.Same(l, m) || at != 0 || e != api.OK {
		t.Fatalf("8.3: Unpack of what Pack tells of %.300v: %.300v, %d, %v", l, m, at, e)
	}
	return b, api.OK
}

// checkUnpack holds Unpack against the model; what it takes must be what Pack tells of its answer.
func checkUnpack(t *testing.T, b []byte) api.Errno {
	t.Helper()
	l, at, e := pack.Unpack(b)
	want, wantAt, wantE := modelUnpack(b)
	if !table.Same(l, want) || at != wantAt || e != wantE {
		t.Fatalf("8.2: Unpack of % .200X: %.300v, %d, %v, want %.300v, %d, %v", b, l, at, e, want, wantAt, wantE)
	}
	if e != api.OK {
		return e
	}
	if again, at, e := pack.Pack(l); !bytes.Equal(again, b) || at != 0 || e != api.OK {
		t.Fatalf("8.3: Unpack takes % .200X, and Pack of its answer is % .200X, %d, %v", b, again, at, e)
	}
	return api.OK
}

// refused is that Unpack refuses b, just so.
func refused(t *testing.T, why string, b []byte, at int, e api.Errno) {
	t.Helper()
	if l, gotAt, got := pack.Unpack(b); len(l) > 0 || gotAt != at || got != e {
		t.Errorf("8.2: Unpack of %s, % .100X: %d records, %d, %v, want none, %d, %v", why, b, len(l), gotAt, got, at, e)
	}
	checkUnpack(t, b)
}

// taken is that Unpack takes b, and tells so many records.
func taken(t *testing.T, why string, b []byte, count int) {
	t.Helper()
	if l, at, e := pack.Unpack(b); len(l) != count || at != 0 || e != api.OK {
		t.Errorf("8.2: Unpack of %s, % .100X: %d records, %d, %v, want %d, 0, OK", why, b, len(l), at, e, count)
	}
	checkUnpack(t, b)
}

// apart is so many right records, no two of which speak of one code point.
func apart(n int) []api.Record {
	var l []api.Record
	for i := range n {
		l = append(l, api.Record{Kind: api.KValid, Lo: 0x1000 + 2*i, Hi: 0x1000 + 2*i})
	}
	return l
}

func TestEachKind(t *testing.T) {
	met := map[int]int{}
	for _, row := range rows {
		met[row.r.Kind]++
		l := []api.Record{row.r}
		want := packed(1, partsOf(row.parts)...)
		if b, at, e := pack.Pack(l); !bytes.Equal(b, want) || at != 0 || e != api.OK {
			t.Errorf("8.1: Pack of %+v: % X, %d, %v, want % X", row.r, b, at, e, want)
		}
		if m, at, e := pack.Unpack(want); !table.Same(l, m) || at != 0 || e != api.OK {
			t.Errorf("8.2: Unpack of % X: %+v, %d, %v, want %+v", want, m, at, e, row.r)
		}
		checkPack(t, l)
		checkUnpack(t, want)
	}
	for kind := api.KValid; kind <= api.KMix; kind++ {
		if met[kind] < 2 {
			t.Errorf("too few rows of the kind %d", kind)
		}
	}
}

func TestExamples(t *testing.T) {
	b, at, e := pack.Pack([]api.Record{{Kind: api.KValid, Lo: 0x61, Hi: 0x7A}})
	if !bytes.Equal(b, summed([]byte{101, 110, 100, 111, 1, 1, 1, 97, 25})) || at != 0 || e != api.OK {
		t.Errorf("8.1: Pack of the letters: % d, %d, %v", b, at, e)
	}
	for _, l := range [][]api.Record{nil, {}} {
		if b, at, e := pack.Pack(l); !bytes.Equal(b, summed([]byte{0x65, 0x6E, 0x64, 0x6F, 1, 0})) || len(b) != 10 || at != 0 || e != api.OK {
			t.Errorf("8.1: Pack of no records: % X, %d, %v", b, at, e)
		}
	}
	// The sums as numbers, reckoned elsewhere: so that the order of their bytes is held too.
	for _, row := range []struct {
		l   []api.Record
		sum uint32
	}{{nil, 0x86651B8B}, {[]api.Record{{Kind: api.KValid, Lo: 0x61, Hi: 0x7A}}, 0x78EBAEC3}} {
		b, _, _ := pack.Pack(row.l)
		if len(b) < 10 {
			t.Fatalf("8.1: Pack of %+v: % X", row.l, b)
		}
		tail := b[len(b)-4:]
		if u := uint32(tail[0]) | uint32(tail[1])<<8 | uint32(tail[2])<<16 | uint32(tail[3])<<24; u != row.sum {
			t.Errorf("8.1: the sum of %+v is %X, want %X", row.l, u, row.sum)
		}
	}
	for _, b := range [][]byte{nil, {}} {
		if l, at, e := pack.Unpack(b); len(l) > 0 || at != 0 || e != api.ErrShort {
			t.Errorf("8.2: Unpack of nothing: %v, %d, %v", l, at, e)
		}
	}
	if l, at, e := pack.Unpack(packed(0)); len(l) > 0 || at != 0 || e != api.OK {
		t.Errorf("8.2: Unpack of the table without records: %v, %d, %v", l, at, e)
	}
	checkPack(t, parsed(t, all))
}

func TestPackOfWhatCheckRefuses(t *testing.T) {
	wrong := []struct {
		r api.Record
		e api.Errno
	}{
		{api.Record{}, api.ErrKind},
		{api.Record{Kind: 16}, api.ErrKind},
		{api.Record{Kind: -1}, api.ErrKind},
		{api.Record{Kind: 257, Lo: 0x61, Hi: 0x61}, api.ErrKind},
		{api.Record{Kind: api.KValid, Lo: 2, Hi: 1}, api.ErrField},
		{api.Record{Kind: api.KValid, Lo: -1, Hi: 1}, api.ErrField},
		{api.Record{Kind: api.KValid, Hi: 0x110000}, api.ErrField},
		{api.Record{Kind: api.KValid, N: 1}, api.ErrField},
		{api.Record{Kind: api.KMapped}, api.ErrField},
		{api.Record{Kind: api.KMapped, To: slices.Repeat([]rune{1}, 25)}, api.ErrField},
		{api.Record{Kind: api.KMapped, To: []rune{-1}}, api.ErrField},
		{api.Record{Kind: api.KShift, N: 1}, api.ErrField},
		{api.Record{Kind: api.KShift, N: 1, To: []rune{1, 2}}, api.ErrField},
		{api.Record{Kind: api.KDeviation, Lo: 1, Hi: 2}, api.ErrField},
		{api.Record{Kind: api.KClass, N: -1}, api.ErrField},
		{api.Record{Kind: api.KScript}, api.ErrField},
		{api.Record{Kind: api.KScript, Name: "Latin"}, api.ErrField},
		{api.Record{Kind: api.KWeight, Weight: math.NaN()}, api.ErrField},
		{api.Record{Kind: api.KWeight, Weight: math.Copysign(0, -1)}, api.ErrField},
		{api.Record{Kind: api.KMix, Name: "Latn", Other: "Latn"}, api.ErrField},
		{api.Record{Kind: api.KIgnored, Lo: 0x1000, Hi: 0x1000}, api.ErrTwice},
	}
	for _, row := range wrong {
		for _, at := range []int{0, 2, 5} {
			if row.e == api.ErrTwice && at == 0 {
				continue
			}
			l := slices.Insert(apart(5), at, row.r)
			if b, got, e := pack.Pack(l); len(b) > 0 || got != at || e != row.e {
				t.Errorf("8.1: Pack with %+v at %d: % X, %d, %v, want none, %d, %v", row.r, at, b, got, e, at, row.e)
			}
			checkPack(t, l)
		}
	}
	if _, e := checkPack(t, apart(4096)); e != api.OK {
		t.Errorf("8.1: Pack of 4,096 records: %v", e)
	}
	if _, e := checkPack(t, apart(4097)); e != api.ErrMany {
		t.Errorf("8.1: Pack of 4,097 records: %v, want ErrMany", e)
	}
}

// filled is a right table whose packing has so many bytes: records of 78 bytes, and one or two that fill what is left.
func filled(size int) []api.Record {
	left := size - len(packed(size/78))
	var l []api.Record
	add := func(to []rune) {
		c := 0x10000 + len(l)
		l = append(l, api.Record{Kind: api.KMapped, Lo: c, Hi: c, To: to})
		left -= len(modelWrite(l[len(l)-1]))
	}
	for left >= 2*78 {
		add(far)
	}
	add(far[:(left-6)/3/2])
	to := slices.Clone(far[:(left-6)/3])
	for i := range (left - 6) % 3 {
		// A number of three bytes less, two of two bytes more: one byte more.
		to[i] = 0x7FF
		to = append(to, 0x7FF)
	}
	add(to)
	return l
}

func TestBounds(t *testing.T) {
	for size := 262144 - 7; size <= 262144; size++ {
		b, e := checkPack(t, filled(size))
		if e != api.OK || len(b) != size {
			t.Errorf("8.1: Pack of a table of %d bytes: %d, %v", size, len(b), e)
		}
		checkUnpack(t, b)
	}
	for size := 262145; size <= 262144+7; size++ {
		l := filled(size)
		if b, at, e := pack.Pack(l); len(b) > 0 || at != 0 || e != api.ErrLong {
			t.Errorf("8.1: Pack of a table of %d bytes: %d, %d, %v, want none, 0, ErrLong", size, len(b), at, e)
		}
		var parts [][]byte
		for _, r := range l {
			parts = append(parts, modelWrite(r))
		}
		b := packed(len(l), parts...)
		if len(b) != size {
			t.Fatalf("filled tells %d bytes for %d", len(b), size)
		}
		refused(t, "a table that is right but for its length", b, 0, api.ErrLong)
	}
	l := filled(270000)
	l[len(l)-1].N = 1
	if b, at, e := pack.Pack(l); len(b) > 0 || at != len(l)-1 || e != api.ErrField {
		t.Errorf("8.1: Pack of what is too long and not right: %d, %d, %v, want none, %d, ErrField", len(b), at, e, len(l)-1)
	}
}

func TestUnpackOfTheFrame(t *testing.T) {
	refused(t, "too many noughts", make([]byte, 262145), 0, api.ErrLong)
	refused(t, "far too many", bytes.Repeat([]byte("endo"), 100000), 0, api.ErrLong)
	refused(t, "as many noughts as may be", make([]byte, 262144), 262140, api.ErrSum)
	for n := range 10 {
		refused(t, "too few noughts", make([]byte, n), n, api.ErrShort)
		refused(t, "the first bytes alone", packed(0)[:n], n, api.ErrShort)
		if n >= 4 {
			refused(t, "too few bytes with their sum", summed([]byte("endo\x01")[:n-4]), n, api.ErrShort)
		}
	}
	refused(t, "10 noughts", make([]byte, 10), 6, api.ErrSum)
	taken(t, "10 bytes", summed([]byte("endo\x01\x00")), 0)
	for i := range 4 {
		for bit := range 8 {
			b := []byte("endo\x01\x00")
			b[i] ^= 1 << bit
			refused(t, "another mark", summed(b), 0, api.ErrForm)
			b[4] = 9
			refused(t, "another mark, another edition", summed(b), 0, api.ErrForm)
			bad := summed(b)
			bad[len(bad)-1] ^= 1
			refused(t, "another mark, another sum", bad, 6, api.ErrSum)
		}
	}
	for edition := range 256 {
		if b := summed([]byte("endo"), []byte{byte(edition), 0}); edition == 1 {
			taken(t, "the edition", b, 0)
		} else {
			refused(t, "another edition", b, 4, api.ErrForm)
			refused(t, "another edition, a number that does not end", summed([]byte("endo"), []byte{byte(edition), 128}), 4, api.ErrForm)
		}
	}
	refused(t, "the bytes the other way round", summed([]byte("odne\x01\x00")), 0, api.ErrForm)
	refused(t, "capitals", summed([]byte("ENDO\x01\x00")), 0, api.ErrForm)
}

func TestUnpackOfSums(t *testing.T) {
	whole, _ := checkPack(t, parsed(t, all))
	n := len(whole) - 4
	for i := n; i < len(whole); i++ {
		for x := 1; x < 256; x++ {
			b := slices.Clone(whole)
			b[i] ^= byte(x)
			refused(t, "another sum", b, n, api.ErrSum)
		}
	}
	b := slices.Clone(whole)
	slices.Reverse(b[n:])
	refused(t, "the sum the other way round", b, n, api.ErrSum)
	refused(t, "nothing for the sum", append(slices.Clone(whole[:n]), 0, 0, 0, 0), n, api.ErrSum)
	u := wire.Sum(whole[:n-1])
	refused(t, "the sum of one byte less", append(slices.Clone(whole[:n]), byte(u), byte(u>>8), byte(u>>16), byte(u>>24)), n, api.ErrSum)
}

func TestUnpackOfCounts(t *testing.T) {
	refused(t, "a count that does not end", summed([]byte("endo\x01\x80")), 5, api.ErrShort)
	refused(t, "a count in two bytes for one", summed([]byte("endo\x01\x80\x00")), 5, api.ErrForm)
	refused(t, "a count of nine bytes that goes on", summed([]byte("endo\x01"), bytes.Repeat([]byte{255}, 9), []byte{1}), 5, api.ErrWide)
	refused(t, "4,096 records and none", packed(4096), 7, api.ErrShort)
	record := partsOf("1|61|0")
	for _, count := range []int{4097, 4098, 65536, 1 << 32, 1<<32 + 1, math.MaxInt} {
		refused(t, "too great a count", packed(count), 5, api.ErrMany)
		refused(t, "too great a count, one record", packed(count, record...), 5, api.ErrMany)
		refused(t, "too great a count, no kind", packed(count, []byte{0}), 5, api.ErrMany)
	}
	var parts [][]byte
	for _, r := range apart(4097) {
		parts = append(parts, modelWrite(r))
	}
	taken(t, "4,096 records", packed(4096, parts[:4096]...), 4096)
	refused(t, "4,097 records", packed(4097, parts...), 5, api.ErrMany)
	for have := range 5 {
		size := 6 + 4*have // each of them has four bytes
		for count := range 6 {
			b := packed(count, parts[:have]...)
			switch {
			case count == have:
				taken(t, "a count that fits", b, count)
			case count > have:
				refused(t, "a count above what follows", b, size, api.ErrShort)
			default:
				refused(t, "a count below what follows", b, 6+4*count, api.ErrTail)
			}
		}
	}
}

func TestUnpackOfKinds(t *testing.T) {
	first := slices.Concat(partsOf("B|0|0")...)
	for kind := range 256 {
		for _, rest := range [][]byte{nil, {0}, {0x61, 0}, bytes.Repeat([]byte{255}, 20), {0x41, 0, 4, 'L', 'a', 't', 'n'}} {
			alone := packed(1, []byte{byte(kind)}, rest)
			second := packed(2, first, []byte{byte(kind)}, rest)
			checkUnpack(t, alone)
			checkUnpack(t, second)
			if kind == 0 || kind > 15 {
				refused(t, "no kind", alone, 6, api.ErrKind)
				refused(t, "no kind, behind a record", second, 9, api.ErrKind)
			}
		}
	}
}

// TestUnpackOfEnds lets the bytes end within and behind each part of a record.
func TestUnpackOfEnds(t *testing.T) {
	first := slices.Concat(partsOf("B|0|0")...)
	for _, row := range rows {
		begin := 0
		var ahead []byte
		for _, part := range partsOf(row.parts) {
			for n := range part {
				short := slices.Concat(ahead, part[:n])
				refused(t, "what ends in "+row.parts, packed(1, short), 6+begin, api.ErrShort)
				refused(t, "what ends in the second, "+row.parts, packed(2, first, short), 9+begin, api.ErrShort)
			}
			ahead = append(ahead, part...)
			begin = len(ahead)
		}
	}
}

// twisted tells each record's bytes with each part in turn put in the place of another one.
func twisted(f func(row string, begin int, form byte, with func(part []byte) []byte)) {
	first := slices.Concat(partsOf("B|0|0")...)
	for _, row := range rows {
		parts := partsOf(row.parts)
		form := formOf(row.r.Kind, len(parts))
		for i := 1; i < len(parts); i++ {
			begin := len(slices.Concat(parts[:i]...))
			f(row.parts, 6+begin, form[i-1], func(part []byte) []byte {
				return packed(1, slices.Concat(parts[:i]...), part, slices.Concat(parts[i+1:]...))
			})
			f(row.parts, 9+begin, form[i-1], func(part []byte) []byte {
				return packed(2, first, slices.Concat(parts[:i]...), part, slices.Concat(parts[i+1:]...))
			})
		}
	}
}

func TestUnpackOfNumbers(t *testing.T) {
	twisted(func(row string, begin int, form byte, with func(part []byte) []byte) {
		most := map[byte]int{'n': 0x10FFFF, 's': 24}[form]
		if most == 0 {
			return
		}
		for _, n := range []int{most + 1, most + 2, 1 << 21, 1 << 31, 1<<32 - 1, 1 << 32, 1<<32 + 0x61, 1<<32 + 2, 1<<56 + 1, math.MaxInt} {
			refused(t, "too great a number in "+row, with(wire.Uint(n)), begin, api.ErrField)
		}
		for _, n := range []int{0, 1, 2, 3, 24, 127, 128, 254, 255, 0xD7FF, 0xD800, 0xDFFF, 0xE000, 0xFFFF, 0x10000, 0x10FFFE, 0x10FFFF} {
			checkUnpack(t, with(wire.Uint(n))) // the model says whether it is taken
		}
		for _, n := range []int{0, 1, 2, 24, 25, 127, 0x110000} {
			b := wire.Uint(n)
			b[len(b)-1] |= 128
			refused(t, "a number with a nought above it in "+row, with(append(b, 0)), begin, api.ErrForm)
			refused(t, "a number with two noughts above it in "+row, with(append(b, 128, 0)), begin, api.ErrForm)
		}
		refused(t, "a number of ten bytes in "+row, with(append(bytes.Repeat([]byte{128}, 9), 1)), begin, api.ErrWide)
		refused(t, "a number of nine bytes that goes on in "+row, with(bytes.Repeat([]byte{255}, 40)), begin, api.ErrWide)
	})
}

func TestUnpackOfLists(t *testing.T) {
	ns := func(n int) []byte { return bytes.Repeat([]byte{0x61}, n) }
	for n := range 30 {
		lists := []struct {
			parts       string
			least, most int
		}{{"3|41|0", 1, 24}, {"5|41", 0, 24}, {"7|41", 2, 2}, {"8|41", 1, 2}, {"D|41", 1, 24}}
		for _, row := range lists {
			ahead := slices.Concat(partsOf(row.parts)...)
			b := packed(1, ahead, []byte{byte(n)}, ns(n))
			switch {
			case n > 24:
				refused(t, "too long a list", b, 6+len(ahead), api.ErrField)
			case n < row.least || n > row.most:
				refused(t, "a list that the kind may not have", b, 6, api.ErrField)
			default:
				taken(t, "a list", b, 1)
			}
			if n > 0 && n <= 24 {
				refused(t, "a list that ends", packed(1, ahead, []byte{byte(n)}, ns(n-1)), 6+len(ahead)+n, api.ErrShort)
			}
		}
	}
}

func TestUnpackOfTexts(t *testing.T) {
	twisted(func(row string, begin int, form byte, with func(part []byte) []byte) {
		if form != 't' {
			return
		}
		record := 6 // twisted puts the record at 6, or at 9 behind another one
		if with(nil)[5] == 2 {
			record = 9
		}
		for _, s := range []string{"", "L", "La", "Lat", "latn", "LATN", "La\xC3n", "\xFF\xFF\xFF\xFF", "L\xC3\xA9n", "Lat\x00", "Lat "} {
			refused(t, "a text that is no name in "+row, with(wire.Text(s)), record, api.ErrField)
		}
		for _, s := range []string{"Latin", "Latn\xFF", "Latn\n", strings.Repeat("L", 127), strings.Repeat("L", 200)} {
			refused(t, "too long a text in "+row, with(wire.Text(s)), begin, api.ErrMany)
		}
		for _, n := range []int{5, 127, 128, 1<<32 + 4, math.MaxInt} {
			refused(t, "a text that is too long and ends in "+row, with(wire.Uint(n)), begin, api.ErrMany)
		}
		for _, b := range []string{"\x84\x00Latn", "\x80\x00", "\x85\x00Latin"} {
			refused(t, "a text's number with a nought above it in "+row, with([]byte(b)), begin, api.ErrForm)
		}
		refused(t, "a text's number of ten bytes in "+row, with(append(bytes.Repeat([]byte{132}, 9), 0)), begin, api.ErrWide)
		for _, s := range []string{"Grek", "Aaaa", "Zzzz", "Mmmm"} {
			checkUnpack(t, with(wire.Text(s)))
		}
	})
	taken(t, "a name of four letters", packed(1, partsOf("C|41|0|4 47 72 65 6B")...), 1)
	refused(t, "two names that are one", packed(1, partsOf("F|4 47 72 65 6B|4 47 72 65 6B|0 0 0 0 0 0 0 0")...), 6, api.ErrField)
}

func TestUnpackOfFloats(t *testing.T) {
	for _, ahead := range []string{"E|41|0", "F|4 4C 61 74 6E|4 43 79 72 6C"} {
		record := slices.Concat(partsOf(ahead)...)
		for _, u := range []uint64{1 << 63, 1<<63 + 1, 0x7FF0000000000001, 0x7FF8000000000000, 0x7FFFFFFFFFFFFFFF, 0xFFF0000000000000, 0xFFF0000000000001, 0xFFF8000000000001, 0xFFFFFFFFFFFFFFFF, math.Float64bits(-1), math.Float64bits(-math.MaxFloat64)} {
			refused(t, "a float that may not be", packed(1, record, wire.Float(api.Float(u))), 6, api.ErrField)
			refused(t, "a float that may not be, behind a record", packed(2, slices.Concat(partsOf("B|0|0")...), record, wire.Float(api.Float(u))), 9, api.ErrField)
		}
		for _, u := range []uint64{0, 1, 1 << 52, 0x3FF0000000000000, 0x7FEFFFFFFFFFFFFF, 0x7FF0000000000000, 0x0123456789ABCDEF} {
			b := packed(1, record, wire.Float(api.Float(u)))
			taken(t, "a float", b, 1)
			if l, _, _ := pack.Unpack(b); len(l) == 1 && api.Bits(l[0].Weight) != u {
				t.Errorf("8.2: the float of the bits %X comes back as %X", u, api.Bits(l[0].Weight))
			}
		}
	}
}

func TestUnpackOfTails(t *testing.T) {
	for _, tail := range [][]byte{{0}, {1}, {255}, {1, 0x61, 0}, bytes.Repeat([]byte{7}, 300)} {
		refused(t, "no records and a tail", packed(0, tail), 6, api.ErrTail)
		refused(t, "a record and a tail", packed(1, slices.Concat(partsOf("1|61|19")...), tail), 9, api.ErrTail)
		refused(t, "a record that is not right, and a tail", packed(1, slices.Concat(partsOf("3|41|0|0")...), tail), 10, api.ErrTail)
		refused(t, "two records that clash, and a tail", packed(2, slices.Concat(partsOf("1|61|19")...), slices.Concat(partsOf("1|61|19")...), tail), 12, api.ErrTail)
	}
	whole, _ := checkPack(t, parsed(t, all))
	refused(t, "the sum and a sum of all", summed(whole), len(whole)-4, api.ErrTail)
}

// TestUnpackOfWhatCheckRefuses puts a record that reads well and is not right at the first, a middle and the last place.
func TestUnpackOfWhatCheckRefuses(t *testing.T) {
	wrong := []struct {
		parts string
		e     api.Errno
	}{
		{"1|FF FF 43|1", api.ErrField},
		{"1|FF FF 43|FF FF 43", api.ErrField},
		{"2|1|FF FF 43", api.ErrField},
		{"3|41|0|1|80 B0 3", api.ErrField},
		{"3|41|0|2|61|FF BF 3", api.ErrField},
		{"3|41|0|0", api.ErrField},
		{"4|41|0|0|61", api.ErrField},
		{"4|41|0|41|61", api.ErrField},
		{"4|41|0|FF FF 43|61", api.ErrField},
		{"4|41|0|1|80 B0 3", api.ErrField},
		{"4|41|1|1|FF FF 43", api.ErrField},
		{"5|80 B0 3|0", api.ErrField},
		{"5|41|1|FF BF 3", api.ErrField},
		{"6|41|0|0", api.ErrField},
		{"6|41|0|FF 1", api.ErrField},
		{"7|41|1|42", api.ErrField},
		{"7|41|3|42|43|44", api.ErrField},
		{"8|41|0", api.ErrField},
		{"8|41|3|42|43|44", api.ErrField},
		{"9|41|0|B", api.ErrField},
		{"A|41|0|6", api.ErrField},
		{"B|41|FF FF 43", api.ErrField},
		{"C|41|0|3 4C 61 74", api.ErrField},
		{"D|41|0", api.ErrField},
		{"E|41|0|0 0 0 0 0 0 0 80", api.ErrField},
		{"F|4 4C 61 74 6E|4 4C 61 74 6E|0 0 0 0 0 0 0 0", api.ErrField},
		{"2|80 20|0", api.ErrTwice},
	}
	var right [][]byte
	for _, r := range apart(5) {
		right = append(right, modelWrite(r))
	}
	for _, row := range wrong {
		for _, at := range []int{0, 2, 5} {
			if row.e == api.ErrTwice && at == 0 {
				continue
			}
			parts := slices.Insert(slices.Clone(right), at, slices.Concat(partsOf(row.parts)...))
			refused(t, row.parts, packed(6, parts...), 6+4*at, row.e)
		}
	}
	mixes := "F|4 4C 61 74 6E|4 43 79 72 6C|0 0 0 0 0 0 0 0|F|4 43 79 72 6C|4 4C 61 74 6E|0 0 0 0 0 0 0 0"
	refused(t, "two scripts twice", packed(2, partsOf(mixes)...), 25, api.ErrTwice)
	refused(t, "a clash, and a field behind it", packed(3, partsOf("1|61|0|1|61|0|6|41|0|0")...), 12, api.ErrField)
	refused(t, "two clashes", packed(4, partsOf("1|61|0|B|61|0|B|61|0|1|61|0")...), 12, api.ErrTwice)
	refused(t, "two fields", packed(3, partsOf("1|61|0|6|41|0|0|6|42|0|0")...), 9, api.ErrField)
}

// TestUnpackOfTwoFaults: what is met first, read from the left, is told.
func TestUnpackOfTwoFaults(t *testing.T) {
	for _, row := range []struct {
		why   string
		count int
		parts string
		at    int
		e     api.Errno
	}{
		{"two numbers that are too great", 1, "1|80 80 44|80 80 44", 7, api.ErrField},
		{"too great a number, and nothing behind it", 1, "1|80 80 44", 7, api.ErrField},
		{"too great a number, and no kind", 2, "1|80 80 44|0|0", 7, api.ErrField},
		{"no kind, and too great a number", 2, "0|1|80 80 44|0", 6, api.ErrKind},
		{"too great a length, and nothing behind it", 1, "3|41|0|19", 9, api.ErrField},
		{"a length that ends, and numbers that are too great", 1, "3|41|0|2|80 80 44", 10, api.ErrField},
		{"a record that is not right, and no kind", 2, "6|41|0|0|0", 10, api.ErrKind},
		{"a record that is not right, and one that ends", 2, "6|41|0|0|1|41", 12, api.ErrShort},
		{"a record that is not right, and none", 2, "6|41|0|0", 10, api.ErrShort},
		{"two records that clash, and a number with a nought above it", 3, "1|61|0|1|61|0|1|61|80 0", 14, api.ErrForm},
		{"a text that is too long, and a float that ends", 1, "F|5 4C 61 74 69 6E|4 43 79 72 6C|0", 7, api.ErrMany},
		{"a text that is no name, and one that is too long", 1, "F|1 4C|5 4C 61 74 69 6E|0 0 0 0 0 0 0 0", 9, api.ErrMany},
		{"a float that may not be, and one that ends", 2, "E|41|0|0 0 0 0 0 0 0 80|E|42|0|0", 20, api.ErrShort},
		{"a number that is too great in too many bytes", 1, "1|80 80 80 80 80 80 80 80 80 1|0", 7, api.ErrWide},
		{"a number that is too great with a nought above it", 1, "1|80 80 C4 0|0", 7, api.ErrForm},
	} {
		refused(t, row.why, packed(row.count, partsOf(row.parts)...), row.at, row.e)
	}
	refused(t, "another mark and too great a count", summed([]byte("endp\x01"), wire.Uint(4097)), 0, api.ErrForm)
	refused(t, "another edition and too great a count", summed([]byte("endo\x00"), wire.Uint(4097)), 4, api.ErrForm)
	refused(t, "too great a count with a nought above it", summed([]byte("endo\x01\x81\xA0\x00")), 5, api.ErrForm)
}

// drawnNumber is a number, mostly small or at an edge.
func drawnNumber(r *rand.Rand) int {
	edges := []int{0, 1, 2, 0x41, 0x61, 127, 128, 0x3FFF, 0x4000, 0xD7FF, 0xD800, 0xE000, 0xFFFF, 0x10000, 0x10FFFE, 0x10FFFF}
	if r.IntN(2) == 0 {
		return edges[r.IntN(len(edges))]
	}
	return r.IntN(1 + 0x10FFFF>>r.IntN(21))
}

// drawnRecord is a record of some kind, mostly right.
func drawnRecord(r *rand.Rand) api.Record {
	scripts := []string{"Latn", "Cyrl", "Grek", "Armn", "Hebr", "Zzzz"}
	weights := []float64{0, 0.25, 1, math.MaxFloat64, math.Inf(1), math.SmallestNonzeroFloat64, -1}
	x := api.Record{Kind: 1 + r.IntN(15)}
	if x.Kind == api.KMix {
		x.Name, x.Other, x.Weight = scripts[r.IntN(6)], scripts[r.IntN(6)], weights[r.IntN(7)]
		return x
	}
	x.Lo = drawnNumber(r)
	x.Hi = x.Lo
	size := 1 + r.IntN(24)
	switch x.Kind {
	case api.KDeviation, api.KMapped, api.KLooks:
	case api.KDecomp, api.KOpens:
		size = 2 - r.IntN(2)*(x.Kind-api.KDecomp)
	case api.KShift:
		size, x.N = 1, 1+r.IntN(64)
	case api.KClass:
		size, x.N = 0, 1+r.IntN(254)
	case api.KBidi:
		size, x.N = 0, r.IntN(11)
	case api.KJoin:
		size, x.N = 0, r.IntN(6)
	case api.KScript:
		size, x.Name = 0, scripts[r.IntN(6)]
	case api.KWeight:
		size, x.Weight = 0, weights[r.IntN(7)]
	default:
		size = 0
	}
	if behind[x.Kind][:2] == "nn" && r.IntN(2) == 0 {
		x.Hi = min(0x10FFFF, x.Lo+r.IntN(1+r.IntN(300)))
	}
	for range size {
		x.To = append(x.To, rune(drawnNumber(r)))
	}
	return x
}

// drawnTable is a list of records, not always right.
func drawnTable(r *rand.Rand) []api.Record {
	var l []api.Record
	for range r.IntN(9) {
		x := drawnRecord(r)
		if table.Right(x) == api.OK || r.IntN(40) == 0 {
			l = append(l, x)
		}
	}
	return l
}

func TestThereAndBack(t *testing.T) {
	r := rand.New(rand.NewPCG(8, 3))
	met := map[api.Errno]int{}
	kinds := map[int]int{}
	packings := map[string][]api.Record{}
	for range 20000 {
		l := drawnTable(r)
		b, e := checkPack(t, l)
		met[e]++
		if e != api.OK {
			continue
		}
		checkUnpack(t, b)
		for _, x := range l {
			kinds[x.Kind]++
		}
		if other, ok := packings[string(b)]; ok && !table.Same(other, l) {
			t.Fatalf("8.3: %+v and %+v are packed alike", l, other)
		}
		packings[string(b)] = l
	}
	if met[api.OK] < 5000 || met[api.ErrTwice] < 1000 || met[api.ErrField] < 200 {
		t.Errorf("the draw tests too little: %v", met)
	}
	for kind := 1; kind <= 15; kind++ {
		if kinds[kind] < 300 {
			t.Errorf("the draw tests too few records of the kind %d: %v", kind, kinds)
		}
	}
}

// drawnBytes is what stands ahead of a packing's sum, with something put in the place of something else.
func drawnBytes(r *rand.Rand) []byte {
	l := drawnTable(r)
	b := append([]byte("endo\x01"), byte(len(l)))
	for _, x := range l {
		b = append(b, modelWrite(x)...)
	}
	for range r.IntN(3) {
		at := r.IntN(1 + len(b))
		if r.IntN(6) > 0 {
			at = min(len(b), 5+r.IntN(12))
		}
		bit := []byte{0, 1, 2, 3, 4, 14, 15, 16, 24, 25, 127, 128, 255}[r.IntN(13)]
		switch r.IntN(4) {
		case 0:
			b = slices.Insert(b, at, bit)
		case 1:
			b = b[:at]
		case 2:
			b = slices.Delete(b, max(0, at-1), at)
		default:
			if at < len(b) {
				b[at] = bit
			}
		}
	}
	return b
}

func TestUnpackOfAll(t *testing.T) {
	r := rand.New(rand.NewPCG(8, 2))
	met := map[api.Errno]int{}
	for range 60000 {
		b := drawnBytes(r)
		for at := range b {
			if b[at] > 127 && r.IntN(400) == 0 {
				b = slices.Insert(b, at, bytes.Repeat([]byte{128}, 1+r.IntN(9))...)
				break
			}
		}
		b = summed(b)
		if r.IntN(30) == 0 {
			b[len(b)-1-r.IntN(4)] ^= 1 << r.IntN(8)
		}
		met[checkUnpack(t, b)]++
	}
	for _, e := range []api.Errno{api.OK, api.ErrShort, api.ErrSum, api.ErrForm, api.ErrMany, api.ErrKind, api.ErrField, api.ErrTail, api.ErrTwice, api.ErrWide} {
		if met[e] < 40 {
			t.Errorf("the draw tests too little of %v (%d): %v", e, e, met)
		}
	}
}

func TestUnpackOfAnyBytes(t *testing.T) {
	r := rand.New(rand.NewPCG(8, 1))
	for range 20000 {
		b := make([]byte, r.IntN(40))
		for i := range b {
			b[i] = byte(r.IntN(256) >> r.IntN(8))
		}
		checkUnpack(t, b)
		checkUnpack(t, summed(b))
		checkUnpack(t, summed([]byte("endo\x01"), b))
		checkUnpack(t, packed(1+r.IntN(3), b))
	}
}

// spoilt is that b with those bits turned over is refused.
func spoilt(t *testing.T, b []byte, bits ...int) {
	t.Helper()
	turn := func() {
		for _, bit := range bits {
			b[bit/8] ^= 1 << (bit % 8)
		}
	}
	turn()
	if l, _, e := pack.Unpack(b); e == api.OK || len(l) > 0 {
		t.Fatalf("8.4: a packing of %d bytes with the bits %v turned over is taken: %v", len(b), bits, e)
	}
	turn()
}

func TestTurnedBits(t *testing.T) {
	none, _ := checkPack(t, nil)
	some, _ := checkPack(t, parsed(t, all))
	for _, b := range [][]byte{none, some} {
		size := 8 * len(b)
		for i := range size {
			spoilt(t, b, i)
			for k := i + 1; k < size; k++ {
				spoilt(t, b, i, k)
			}
		}
	}
	for i := range 80 {
		for k := i + 1; k < 80; k++ {
			for m := k + 1; m < 80; m++ {
				spoilt(t, none, i, k, m)
			}
		}
	}
}

// drawnBurst is bits within 32 that follow one another, one of them the first.
func drawnBurst(r *rand.Rand, first, size int) []int {
	bits := []int{first}
	pattern := r.Uint32() | r.Uint32()>>r.IntN(32)
	for i := 1; i < 32 && first+i < size; i++ {
		if pattern>>i&1 == 1 {
			bits = append(bits, first+i)
		}
	}
	return bits
}

func TestTurnedBitsOfGreatTables(t *testing.T) {
	r := rand.New(rand.NewPCG(8, 4))
	for _, size := range []int{10, 200, 1000, 20000, 100000} {
		var l []api.Record
		if size > 180 {
			l = filled(size)
		}
		b, _ := checkPack(t, l)
		if len(b) != size {
			t.Fatalf("a table of %d bytes, want %d", len(b), size)
		}
		n := 8 * size
		for range 200 {
			a := r.IntN(n - 2)
			c := a + 1 + r.IntN(n-2-a)
			spoilt(t, b, a, c, c+1+r.IntN(n-1-c))
			spoilt(t, b, drawnBurst(r, r.IntN(n), n)...)
		}
		spoilt(t, b, 0, n/2, n-1)
	}
	some, _ := checkPack(t, parsed(t, all))
	for first := range 8 * len(some) {
		for range 20 {
			spoilt(t, some, drawnBurst(r, first, 8*len(some))...)
		}
	}
}

func TestBeginnings(t *testing.T) {
	some := parsed(t, all)
	for n := range len(some) + 1 {
		b, _ := checkPack(t, some[:n])
		for i := range b {
			if l, _, e := pack.Unpack(b[:i]); e == api.OK || len(l) > 0 {
				t.Errorf("8.4: the first %d of %d bytes are taken", i, len(b))
			}
			checkUnpack(t, b[:i])
		}
	}
	// A beginning that ends in its own sum: it is what a float's lower half was made to be.
	ahead := slices.Concat([]byte("endo\x01\x01"), slices.Concat(partsOf("E|41|0")...))
	begun := summed(ahead)
	whole := summed(begun, []byte{0, 0, 0, 0})
	taken(t, "a float that is a sum", whole, 1)
	refused(t, "a beginning with its sum", begun, 9, api.ErrShort)
}

// roomy is a list with room behind it, and behind each To.
func roomy(l []api.Record) []api.Record {
	room := make([]api.Record, len(l)+4)
	for i := range room {
		room[i] = api.Record{Kind: 99, Name: "room"}
		if i < len(l) {
			room[i] = l[i]
			to := append(slices.Clone(l[i].To), 7, 7, 7)
			room[i].To = to[:len(l[i].To)]
		}
	}
	return room[:len(l)]
}

func TestWhatIsHandedInStays(t *testing.T) {
	some := parsed(t, all)
	for _, l := range [][]api.Record{nil, some, append(slices.Clone(some), some...), {{Kind: 77, To: []rune{1}}}, filled(263000)} {
		in := roomy(l)
		pack.Pack(in)
		if !table.Same(in, l) {
			t.Errorf("Pack changed what was handed in: %.200v, was %.200v", in, l)
		}
		for _, r := range in[len(in):cap(in)] {
			if r.Kind != 99 || r.Name != "room" {
				t.Errorf("Pack changed the room behind the list: %+v", r)
			}
		}
		for _, r := range in {
			if room := r.To[len(r.To):cap(r.To)]; len(room) < 3 || !slices.Equal(room[:3], []rune{7, 7, 7}) {
				t.Errorf("Pack changed the room behind a To: %v", room)
			}
		}
	}
	whole, _ := checkPack(t, some)
	for _, b := range [][]byte{nil, whole, whole[:20], packed(0), packed(2, partsOf("1|61|0|1|61|0")...), packed(1, partsOf("1|61|0|7")...), summed([]byte("endo\x01\xFF"))} {
		room := append(slices.Clone(b), bytes.Repeat([]byte{99}, 20)...)
		pack.Unpack(room[:len(b)])
		if !bytes.Equal(room[:len(b)], b) || !bytes.Equal(room[len(b):], bytes.Repeat([]byte{99}, 20)) {
			t.Errorf("Unpack changed what was handed in, or the room behind it: % X, was % X", room, b)
		}
	}
}

func TestWhatIsToldIsItsCallers(t *testing.T) {
	some := parsed(t, all)
	first, _, _ := pack.Pack(some)
	want := slices.Clone(first)
	second, _, _ := pack.Pack(some)
	first = first[:cap(first)]
	for i := range first {
		first[i] = 99
	}
	if third, _, _ := pack.Pack(some); !bytes.Equal(second, want) || !bytes.Equal(third, want) {
		t.Error("Pack's answers share memory")
	}
	in := slices.Clone(want)
	l, _, _ := pack.Unpack(in)
	for i := range in {
		in[i] = 99
	}
	if !table.Same(l, some) {
		t.Errorf("Unpack keeps what was handed in: %+v", l)
	}
	m, _, _ := pack.Unpack(want)
	for i := range l {
		to := l[i].To[:cap(l[i].To)]
		for k := range to {
			to[k] = 99
		}
		for k := range l {
			if k > i && !slices.Equal(l[k].To, some[k].To) {
				t.Fatalf("two lists of Unpack's answer share memory: %d and %d", i, k)
			}
		}
	}
	l = l[:cap(l)]
	for i := range l {
		l[i] = api.Record{Kind: 99}
	}
	again, _, _ := pack.Unpack(want)
	if !table.Same(m, some) || !table.Same(again, some) {
		t.Error("Unpack's answers share memory")
	}
}

// TestManyAtATime: nothing is kept from call to call.
func TestManyAtATime(t *testing.T) {
	some := parsed(t, all)
	want, _, _ := pack.Pack(some)
	done := make(chan string)
	for range 8 {
		go func() {
			for range 50 {
				b, _, _ := pack.Pack(some)
				l, at, e := pack.Unpack(want)
				if !bytes.Equal(b, want) || !table.Same(l, some) {
					done <- fmt.Sprintf("% X, %d, %v", b, at, e)
					return
				}
			}
			done <- ""
		}()
	}
	for range 8 {
		if s := <-done; s != "" {
			t.Error(s)
		}
	}
}
