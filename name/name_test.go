package name_test

import (
	"bytes"
	"math"
	"math/rand/v2"
	"slices"
	"strings"
	"testing"

	"endonym/api"
	"endonym/name"
)

func letters(n int) string { return strings.Repeat("a", n) }

// some is what of a text is worth showing.
func some(s string) string { return s[:min(len(s), 40)] }

func checkPack(t *testing.T, s string, want []byte, wantErr api.Errno) {
	t.Helper()
	if b, e := name.Pack(s); !bytes.Equal(b, want) || e != wantErr {
		t.Errorf("20.2: Pack(%d bytes, %q): %v, %d, want %v, %d", len(s), some(s), b, int(e), want, int(wantErr))
	}
}

func checkUnpack(t *testing.T, b []byte, at int, want string, wantNext int, wantErr api.Errno) {
	t.Helper()
	if s, next, e := name.Unpack(b, at); s != want || next != wantNext || e != wantErr {
		t.Errorf("20.2: Unpack(%d bytes, %v, %d): %q, %d, %d, want %q, %d, %d", len(b), b[:min(len(b), 20)], at, s, next, int(e), want, wantNext, int(wantErr))
	}
}

// checkCompare asks it both ways round.
func checkCompare(t *testing.T, a, b string, want int) {
	t.Helper()
	if n := name.Compare(a, b); n != want {
		t.Errorf("20.3: Compare(%q, %q): %d, want %d", some(a), some(b), n, want)
	}
	if n := name.Compare(b, a); n != -want {
		t.Errorf("20.3: Compare(%q, %q): %d, want %d", some(b), some(a), n, -want)
	}
}

func TestExamples(t *testing.T) {
	checkPack(t, "a.bc", []byte{1, 0x61, 2, 0x62, 0x63, 0}, api.OK)
	checkPack(t, "", []byte{0}, api.OK)
	checkPack(t, "a.", nil, api.ErrLabel)
	checkPack(t, "a..b", nil, api.ErrLabel)
	checkUnpack(t, []byte{1, 0x61, 0, 9}, 0, "a", 3, api.OK)
	checkUnpack(t, []byte{1}, 0, "", 0, api.ErrShort)
	checkUnpack(t, []byte{64, 0x61, 0}, 0, "", 0, api.ErrLabel)
	checkUnpack(t, []byte{1, 0x2E, 0}, 0, "", 0, api.ErrLabel)
	checkCompare(t, "a.z", "b.a", 1)
	checkCompare(t, "A.b", "a.B", 0)
	checkCompare(t, "z", "a.z", -1)
	checkCompare(t, "", "a", -1)
	if !name.Below("x.Example", "example") || name.Below("xexample", "example") || !name.Below("a", "") {
		t.Error("20.3: Below")
	}
	if l := name.Sorted("b.a", "a", "b", "a.a"); !slices.Equal(l, []string{"a", "a.a", "b.a", "b"}) {
		t.Errorf("20.4: Sorted: %q", l)
	}
}

// 20.1

func TestLabels(t *testing.T) {
	for _, c := range []struct {
		s    string
		want []string
	}{
		{"", nil},
		{"a", []string{"a"}}, {"bücher", []string{"bücher"}}, {"A b", []string{"A b"}},
		{".", []string{"", ""}}, {"..", []string{"", "", ""}}, {"...", []string{"", "", "", ""}},
		{".a", []string{"", "a"}}, {"..a", []string{"", "", "a"}}, {"a.", []string{"a", ""}}, {"a..", []string{"a", "", ""}}, {".a.", []string{"", "a", ""}},
		{"a.b", []string{"a", "b"}}, {"a..b", []string{"a", "", "b"}}, {"www.Example.COM", []string{"www", "Example", "COM"}}, {"c.b.a", []string{"c", "b", "a"}},
		{"\x00", []string{"\x00"}}, {"\x00.\x00\x00", []string{"\x00", "\x00\x00"}}, {"\xFF.\x80", []string{"\xFF", "\x80"}}, {"\xC3.\xBC", []string{"\xC3", "\xBC"}},
		// the byte AE is no full stop, and no other number that is like one, written as UTF-8
		{"a\xAEb", []string{"a\xAEb"}}, {"a\u3002b\uFF0Ec", []string{"a\u3002b\uFF0Ec"}}, {"a,b/c-d", []string{"a,b/c-d"}},
		{letters(64) + "." + letters(300), []string{letters(64), letters(300)}},
	} {
		if l := name.Labels(c.s); !slices.Equal(l, c.want) {
			t.Errorf("20.1: Labels(%q): %q, want %q", some(c.s), l, c.want)
		}
	}
}

func TestLabelsByWords(t *testing.T) {
	check := func(s string) {
		var want []string
		for _, label := range cut(s) {
			want = append(want, string(label))
		}
		if l := name.Labels(s); !slices.Equal(l, want) {
			t.Fatalf("20.1: Labels(%q): %q, want %q", some(s), l, want)
		}
	}
	for _, s := range allTexts(".a\x00\xFF", 6) {
		check(s)
	}
	draw := rand.New(rand.NewPCG(20, 1))
	for range 3000 {
		check(drawnName(draw))
		check(drawnFit(draw))
	}
}

func TestLabelsAreTheCallersOwn(t *testing.T) {
	s := "a.b.c"
	l := name.Labels(s)
	for i := range l[:cap(l)] {
		l[:cap(l)][i] = "x"
	}
	if again := name.Labels(s); !slices.Equal(again, []string{"a", "b", "c"}) {
		t.Errorf("20.1: Labels again: %q", again)
	}
}

// 20.2

// labelled is a label at the beginning, in the midst, at the end of a name, and alone.
func labelled(label string) []string {
	return []string{label + ".b.c", "b." + label + ".c", "b.c." + label, "b." + label, label + ".b", label}
}

func TestPackLabels(t *testing.T) {
	for _, size := range []int{1, 2, 62, 63} {
		label := letters(size)
		own := append([]byte{byte(size)}, label...)
		b, c := []byte{1, 'b'}, []byte{1, 'c'}
		for i, want := range [][]byte{slices.Concat(own, b, c), slices.Concat(b, own, c), slices.Concat(b, c, own), slices.Concat(b, own), slices.Concat(own, b), own} {
			checkPack(t, labelled(label)[i], append(want, 0), api.OK)
		}
	}
	for _, size := range []int{64, 65, 128, 255, 256, 257, 300, 319, 512} {
		for _, s := range labelled(letters(size)) {
			checkPack(t, s, nil, api.ErrLabel)
		}
	}
	for _, s := range labelled("")[:5] {
		checkPack(t, s, nil, api.ErrLabel)
	}
	for _, s := range []string{".", "..", "...", ".a.", "a..", "..a"} {
		checkPack(t, s, nil, api.ErrLabel)
	}
	// any bytes, as they are
	checkPack(t, "", []byte{0}, api.OK)
	checkPack(t, "\x00", []byte{1, 0, 0}, api.OK)
	checkPack(t, "\x00.\xFF\xC0", []byte{1, 0, 2, 0xFF, 0xC0, 0}, api.OK)
	checkPack(t, "WwW.A", []byte{3, 'W', 'w', 'W', 1, 'A', 0}, api.OK)
	checkPack(t, "ü.\x01\xAE", []byte{2, 0xC3, 0xBC, 2, 1, 0xAE, 0}, api.OK)
}

// sized is a name of so many bytes (200 to 255): three labels of 63 bytes and a shorter one, which stands at a place from 0 to 3.
func sized(size, place int) string {
	l := slices.Repeat([]string{letters(63)}, 3)
	return strings.Join(slices.Insert(l, place, letters(size-3*64)), ".")
}

func TestPackLengths(t *testing.T) {
	for place := range 4 {
		for _, size := range []int{200, 252, 253} {
			s := sized(size, place)
			want := []byte{}
			for _, label := range strings.Split(s, ".") {
				want = append(append(want, byte(len(label))), label...)
			}
			if len(want) != size+1 {
				t.Fatalf("the test's own name has %d bytes", len(s))
			}
			checkPack(t, s, append(want, 0), api.OK)
		}
		checkPack(t, sized(254, place), nil, api.ErrLong)
		checkPack(t, sized(255, place), nil, api.ErrLong)
	}
	checkPack(t, strings.Repeat("a.", 126)+"a", append(bytes.Repeat([]byte{1, 'a'}, 127), 0), api.OK)
	checkPack(t, strings.Repeat("a.", 126)+"ab", nil, api.ErrLong)
	checkPack(t, "ab"+strings.Repeat(".a", 126), nil, api.ErrLong)
	checkPack(t, strings.Repeat("a.", 127)+"a", nil, api.ErrLong)
	checkPack(t, strings.Repeat("abc.", 100000)+"a", nil, api.ErrLong)
	// how many bytes, not how many letters
	checkPack(t, strings.Repeat("ü.", 84)+"ü", nil, api.ErrLong)
	checkPack(t, strings.Repeat("ü.", 83)+"aaaa", append(bytes.Repeat([]byte{2, 0xC3, 0xBC}, 83), 4, 'a', 'a', 'a', 'a', 0), api.OK)
}

// Both faults at once: the label's is told, wherever it stands.
func TestPackBothFaults(t *testing.T) {
	long := sized(253, 3)
	for _, label := range []string{"", letters(64), letters(254), letters(70000)} {
		checkPack(t, label+"."+long, nil, api.ErrLabel)
		checkPack(t, long+"."+label, nil, api.ErrLabel)
		checkPack(t, long+"."+label+"."+long, nil, api.ErrLabel)
		checkPack(t, strings.Repeat("a.", 70000)+label, nil, api.ErrLabel)
	}
	checkPack(t, letters(254), nil, api.ErrLabel)
	checkPack(t, letters(253), nil, api.ErrLabel)
	checkPack(t, strings.Repeat(".", 253), nil, api.ErrLabel)
	checkPack(t, strings.Repeat(".", 300), nil, api.ErrLabel)
}

func TestPackIsTheCallersOwn(t *testing.T) {
	for _, s := range []string{"", "a.bc", sized(253, 0)} {
		want, _ := packed(s)
		b, _ := name.Pack(s)
		b = b[:cap(b)]
		for i := range b {
			b[i] = 0xEE
		}
		checkPack(t, s, want, api.OK)
	}
}

func TestUnpackPlaces(t *testing.T) {
	b := []byte{1, 'a', 2, 'b', 'c', 0, 1, 'd', 0}
	for _, c := range []struct {
		at   int
		s    string
		next int
		e    api.Errno
	}{
		{math.MinInt, "", 0, api.ErrArg}, {-64, "", 0, api.ErrArg}, {-1, "", 0, api.ErrArg},
		{0, "a.bc", 6, api.OK}, {1, "", 0, api.ErrLabel}, {2, "bc", 6, api.OK}, {3, "", 0, api.ErrLabel}, {4, "", 0, api.ErrLabel},
		{5, "", 6, api.OK}, {6, "d", 9, api.OK}, {7, "", 0, api.ErrLabel}, {8, "", 9, api.OK},
		{9, "", 0, api.ErrShort}, {10, "", 0, api.ErrArg}, {11, "", 0, api.ErrArg}, {math.MaxInt, "", 0, api.ErrArg},
	} {
		checkUnpack(t, b, c.at, c.s, c.next, c.e)
	}
	for _, none := range [][]byte{nil, {}} {
		checkUnpack(t, none, -1, "", 0, api.ErrArg)
		checkUnpack(t, none, 0, "", 0, api.ErrShort)
		checkUnpack(t, none, 1, "", 0, api.ErrArg)
	}
	// what lies in the spare room is not there
	room := []byte{1, 'a', 0, 0}
	checkUnpack(t, room[:2], 0, "", 0, api.ErrShort)
	checkUnpack(t, room[:1], 0, "", 0, api.ErrShort)
	checkUnpack(t, room[:0], 0, "", 0, api.ErrShort)
	checkUnpack(t, room[:2], 2, "", 0, api.ErrShort)
	checkUnpack(t, room[:2], 3, "", 0, api.ErrArg)
}

// Bytes that end ahead of a length, within a label, ahead of the 0.
func TestUnpackShort(t *testing.T) {
	for _, s := range []string{"a", "a.bc", "abc.d", letters(63) + ".b", sized(253, 1)} {
		b, _ := packed(s)
		for n := range b {
			checkUnpack(t, b[:n:n], 0, "", 0, api.ErrShort)
			checkUnpack(t, append([]byte{0, 1, 'x'}, b[:n]...), 3, "", 0, api.ErrShort)
		}
		checkUnpack(t, b, 0, s, len(b), api.OK)
	}
}

func TestUnpackLengths(t *testing.T) {
	many := bytes.Repeat([]byte{'x'}, 300)
	for _, ahead := range [][]byte{nil, {1, 'a'}, {3, 'a', 0, 'c', 1, 'd'}, bytes.Repeat([]byte{1, 'a'}, 500)} {
		for size := 64; size <= 255; size++ {
			for _, behind := range [][]byte{nil, {0}, many, many[:size], many[:size-1], append(many[:size:size], 0)} {
				checkUnpack(t, slices.Concat(ahead, []byte{byte(size)}, behind), 0, "", 0, api.ErrLabel)
			}
		}
	}
	for _, size := range []int{1, 2, 62, 63} {
		x := string(many[:size])
		checkUnpack(t, slices.Concat([]byte{byte(size)}, many[:size], []byte{0}), 0, x, size+2, api.OK)
		checkUnpack(t, slices.Concat([]byte{1, 'a', byte(size)}, many[:size], []byte{0, 5}), 0, "a."+x, size+4, api.OK)
		checkUnpack(t, slices.Concat([]byte{byte(size)}, many[:size-1]), 0, "", 0, api.ErrShort)
		checkUnpack(t, slices.Concat([]byte{byte(size)}, many[:size]), 0, "", 0, api.ErrShort)
	}
	// the bytes of a label are any, 0 and those that would be lengths too
	checkUnpack(t, []byte{1, 0, 0}, 0, "\x00", 3, api.OK)
	checkUnpack(t, []byte{3, 64, 0, 255, 2, 0xC0, 0x0C, 0}, 0, "\x40\x00\xFF.\xC0\x0C", 8, api.OK)
	checkUnpack(t, []byte{2, 0xAE, 'Z', 0}, 0, "\xAEZ", 4, api.OK)
	// 2E as a length is one
	checkUnpack(t, slices.Concat([]byte{0x2E}, many[:0x2E], []byte{0}), 0, string(many[:0x2E]), 0x30, api.OK)
}

// dotted is a label of so many bytes with a full stop at a place, its length ahead.
func dotted(size, place int) []byte {
	b := append([]byte{byte(size)}, letters(size)...)
	b[1+place] = 0x2E
	return b
}

func TestUnpackFullStops(t *testing.T) {
	for _, size := range []int{1, 2, 3, 62, 63} {
		for _, place := range []int{0, size / 2, size - 1} {
			own := dotted(size, place)
			for _, ahead := range [][]byte{nil, {1, 'a'}, bytes.Repeat([]byte{1, 'a'}, 200)} {
				for _, behind := range [][]byte{nil, {0}, {0, 7, 7}, {1}, {1, 'b'}, {1, 'b', 0}, {64, 0}, {255}} {
					checkUnpack(t, slices.Concat(ahead, own, behind), 0, "", 0, api.ErrLabel)
				}
				// the bytes end within that very label
				for n := 1; n < len(own); n++ {
					checkUnpack(t, slices.Concat(ahead, own[:n]), 0, "", 0, api.ErrShort)
				}
			}
		}
	}
	// a fault further ahead is told
	checkUnpack(t, []byte{1, 0x2E, 5, 'a'}, 0, "", 0, api.ErrLabel)
	checkUnpack(t, []byte{1, 'a', 5, 0x2E, 'a'}, 0, "", 0, api.ErrShort)
	checkUnpack(t, []byte{1, 'a', 63, 0x2E, 0}, 0, "", 0, api.ErrShort)
	checkUnpack(t, []byte{2, 0x2E, 0x2E, 200}, 0, "", 0, api.ErrLabel)
	// a full stop behind the 0, or ahead of the place, is none of the name's
	checkUnpack(t, []byte{1, 'a', 0, 0x2E}, 0, "a", 3, api.OK)
	checkUnpack(t, []byte{1, 0x2E, 1, 'a', 0}, 2, "a", 5, api.OK)
}

func TestUnpackLong(t *testing.T) {
	raw := func(l ...int) []byte {
		var b []byte
		for _, size := range l {
			b = append(append(b, byte(size)), letters(size)...)
		}
		return b
	}
	ends := func(b []byte) []byte { return append(b[:len(b):len(b)], 0) }
	for place := range 4 {
		l := []int{63, 63, 63}
		checkUnpack(t, ends(raw(slices.Insert(l, place, 60)...)), 0, sized(252, place), 254, api.OK)
		checkUnpack(t, ends(raw(slices.Insert(l, place, 61)...)), 0, sized(253, place), 255, api.OK)
		checkUnpack(t, ends(raw(slices.Insert(l, place, 62)...)), 0, "", 0, api.ErrLong)
		checkUnpack(t, ends(raw(slices.Insert(l, place, 63)...)), 0, "", 0, api.ErrLong)
	}
	ones := slices.Repeat([]int{1}, 128)
	checkUnpack(t, ends(raw(ones[:127]...)), 0, strings.Repeat("a.", 126)+"a", 255, api.OK)
	checkUnpack(t, ends(raw(append(ones[:126:126], 2)...)), 0, "", 0, api.ErrLong)
	checkUnpack(t, ends(raw(ones...)), 0, "", 0, api.ErrLong)
	checkUnpack(t, ends(bytes.Repeat([]byte{1, 'a'}, 100000)), 0, "", 0, api.ErrLong)
	// other faults are told ahead of it, however far behind they stand
	for _, many := range []int{128, 129, 40000} {
		b := bytes.Repeat([]byte{1, 'a'}, many)
		checkUnpack(t, b, 0, "", 0, api.ErrShort)
		checkUnpack(t, append(b[:len(b):len(b)], 2, 'a'), 0, "", 0, api.ErrShort)
		checkUnpack(t, append(b[:len(b):len(b)], 64), 0, "", 0, api.ErrLabel)
		checkUnpack(t, append(b[:len(b):len(b)], 1, 0x2E, 0), 0, "", 0, api.ErrLabel)
		checkUnpack(t, ends(b), 0, "", 0, api.ErrLong)
		// what stands ahead of the place is not counted
		checkUnpack(t, ends(b), 2*many-2, "a", 2*many+1, api.OK)
		checkUnpack(t, ends(b), 2*many-254, strings.Repeat("a.", 126)+"a", 2*many+1, api.OK)
	}
}

// All short bytes of these, at all places, and drawn ones.
func TestUnpackByWords(t *testing.T) {
	check := func(b []byte, at int) {
		s, next, e := name.Unpack(b, at)
		if want, wantNext, wantErr := unpacked(b, at); s != want || next != wantNext || e != wantErr {
			t.Fatalf("20.2: Unpack(%v, %d): %q, %d, %d, want %q, %d, %d", b, at, s, next, int(e), want, wantNext, int(wantErr))
		}
	}
	for _, s := range allTexts("\x00\x01\x02\x03\x2E\x3F\x40\xFF", 5) {
		for at := -1; at <= len(s)+1; at++ {
			check([]byte(s), at)
		}
	}
	draw := rand.New(rand.NewPCG(20, 2))
	for range 20000 {
		b := make([]byte, draw.IntN(30))
		for i := range b {
			b[i] = byte(draw.IntN(6))
			if draw.IntN(20) == 0 {
				b[i] = byte(draw.IntN(256))
			}
		}
		check(b, draw.IntN(len(b)+1))
	}
	for range 3000 {
		b, _ := packed(drawnFit(draw))
		b[draw.IntN(len(b))] = byte(draw.IntN(256))
		check(b, 0)
		check(append(b, b...), draw.IntN(len(b)))
	}
}

// What is handed in stays as it is, and the text that is told does not hang on it later.
func TestUnpackKeepsNothing(t *testing.T) {
	room := []byte{9, 1, 'a', 2, 'b', 'c', 0, 1, 'd', 0}
	was := slices.Clone(room)
	s, next, e := name.Unpack(room[:7], 1)
	if !bytes.Equal(room, was) || next != 7 || e != api.OK {
		t.Errorf("20.2: Unpack changed what it was handed: %v, %d, %d", room, next, int(e))
	}
	clear(room)
	if s != "a.bc" {
		t.Errorf("20.2: what Unpack told: %q", s)
	}
}

func TestPackByWords(t *testing.T) {
	check := func(s string) {
		b, e := name.Pack(s)
		if want, wantErr := packed(s); !bytes.Equal(b, want) || e != wantErr {
			t.Fatalf("20.2: Pack(%d bytes, %q): %v, %d, want %v, %d", len(s), some(s), b, int(e), want, int(wantErr))
		}
	}
	for _, s := range allTexts(".a\x00\xFF", 6) {
		check(s)
	}
	draw := rand.New(rand.NewPCG(20, 3))
	for range 3000 {
		s := drawnFit(draw)
		check(s)
		check(s + ".ab")
		check(s + "abc")
		check("abc" + s)
		check(drawnName(draw))
	}
}

// 20.3

func TestCompare(t *testing.T) {
	for _, c := range []struct {
		a, b string
		want int
	}{
		// the root, and empty labels
		{"", "", 0}, {"", ".", -1}, {"", "..", -1}, {"", "\x00", -1}, {"", "a.", -1}, {"", "A.a", -1},
		{".", ".", 0}, {".", "..", -1}, {".", "a", -1}, {".", ".a", -1}, {".", "a.", -1}, {"a.", "a", -1}, {"a.", "b.", -1}, {"b.", "a", -1},
		{"a", ".a", -1}, {".a", "..a", -1}, {".a", "a.a", -1}, {"z.a", ".b", -1}, {"a..b", "a.b", -1}, {"a..b", "b..b", -1}, {"A..B", "a..b", 0},
		// in the last label, whatever stands ahead; in an earlier one
		{"a", "b", -1}, {"z.a", "a.b", -1}, {"z.z.z.a", "b", -1}, {"x.com", "com.x", -1}, {"z", "a.z", -1}, {"b.a", "b", -1},
		{"a.c", "b.c", -1}, {"z.a.c", "a.b.c", -1}, {"a.x.c", "b.x.c", -1}, {"a.c.c", "z.b.z", -1}, {"z.a.c", "b.c", -1},
		// in the number of labels
		{"c", "a.c", -1}, {"c", "\x00.c", -1}, {"b.c", "a.b.c", -1}, {"b.c", "z.a.b.C", -1}, {"B.c", "a.b.c", -1},
		// a label that begins the other; there it does not matter what is ahead
		{"a", "ab", -1}, {"a", "a\x00", -1}, {"a.c", "ab.c", -1}, {"z.a.c", "a.ab.c", -1}, {"z.a", "ab", -1}, {"A", "aB", -1}, {"ab", "b", -1}, {"abc", "abd", -1}, {"ab", "abcdef", -1},
		// a label that ends the other
		{"b", "cb", -1}, {"ab", "b", -1}, {"xa.com", "a.com", 1},
		// capital letters alone
		{"A", "a", 0}, {"Z", "z", 0}, {"M.n", "m.N", 0}, {"EXAMPLE.com", "example.COM", 0}, {"A.b", "a.B", 0}, {"A", "B", -1}, {"a", "B", -1}, {"A", "b", -1}, {"Z", "a", 1}, {"Ab", "aC", -1},
		// bytes beside A to Z and a to z
		{"@", "A", -1}, {"@", "a", -1}, {"@", "`", -1}, {"`", "a", -1}, {"`", "A", -1}, {"[", "Z", -1}, {"[", "a", -1}, {"[", "A", -1}, {"{", "Z", 1}, {"{", "z", 1}, {"{", "[", 1}, {"@", "[", -1}, {"_", "a", -1}, {"_", "A", -1}, {"Z", "{", -1},
		{"-", "0", -1}, {"0", "a", -1}, {"9", "A", -1}, {"a-b", "a.b", -1}, {"/", "-", 1}, {"-", "\x00", 1},
		// bytes beyond 7F: as they are, the greatest last
		{"z", "\x80", -1}, {"\x80", "\xFF", -1}, {"\xC1", "\xE1", -1}, {"Ü", "ü", -1}, {"\xC0", "\xDA", -1}, {"a\xFF", "a", 1}, {"a\xFF", "b", -1}, {"\xFF.a", "\x00.b", -1}, {"\x7F", "\x80", -1},
		// the byte 0
		{"\x00", "\x01", -1}, {"\x00", "\x00\x00", -1}, {"a\x00b", "a\x00B", 0}, {"a\x00b", "a\x00c", -1},
		// longer ones
		{letters(5000), letters(5001), -1}, {letters(5000) + "b", letters(5001), 1}, {strings.Repeat("a.", 3000) + "b", strings.Repeat("A.", 2999) + "B", 1}, {strings.Repeat("a.", 3000) + "b", strings.Repeat("A.", 3000) + "B", 0},
	} {
		checkCompare(t, c.a, c.b, c.want)
	}
}

// Each two bytes, alone and within labels: the bytes of a to z at the places of A to Z.
func TestCompareBytes(t *testing.T) {
	weight := func(c int) int {
		if c >= 0x41 && c <= 0x5A {
			return c + 0x20
		}
		return c
	}
	for c := range 256 {
		for d := range 256 {
			if c == 0x2E || d == 0x2E {
				continue
			}
			want := 0
			switch {
			case weight(c) < weight(d):
				want = -1
			case weight(c) > weight(d):
				want = 1
			}
			x, y := string([]byte{byte(c)}), string([]byte{byte(d)})
			checkCompare(t, x, y, want)
			checkCompare(t, "x"+x+".y", "X"+y+".Y", want)
			if name.Below("a."+x, y) != (want == 0) {
				t.Errorf("20.3: Below(%q, %q)", "a."+x, y)
			}
		}
	}
}

func TestBelow(t *testing.T) {
	for _, c := range []struct {
		a, b string
		want bool
	}{
		// itself, and the root
		{"", "", true}, {"a", "a", true}, {"a.b", "a.b", true}, {".", ".", true}, {"\xFF.\x00", "\xFF.\x00", true},
		{"a", "", true}, {"a.b.c", "", true}, {".", "", true}, {"\x00", "", true}, {"", "a", false}, {"", ".", false}, {"", "\x00", false},
		{"b.a", "a", true}, {"c.b.a", "a", true}, {"c.b.a", "b.a", true}, {"d.c.b.a", "c.b.a", true}, {"a.b", "a", false}, {"a.b.c", "a.b", false}, {"a.b.c", "b", false}, {"a.b.c", "a.c", false}, {"a.b.c", "x.b.c", false},
		// a label that only ends alike
		{"xexample", "example", false}, {"a.xexample", "example", false}, {"xb.a", "b.a", false}, {"c.xb.a", "b.a", false}, {"x\x00a", "a", false}, {"x-a", "a", false}, {"x/a", "a", false},
		{"examplex", "example", false}, {"a.examplex", "example", false}, {"exampl", "example", false},
		// capital letters, and what is beside them
		{"x.Example", "example", true}, {"x.example", "EXAMPLE", true}, {"A.B.C", "b.c", true}, {"a.Z", "z", true}, {"x.A", "a", true}, {"x.@", "`", false}, {"x.[", "{", false}, {"x.{", "[", false}, {"x.ü", "Ü", false}, {"x.\xE1", "\xC1", false},
		// fewer labels
		{"c", "b.c", false}, {"b.c", "a.b.c", false}, {"c", ".c", false}, {"a", "a.a", false}, {"a.a", "a.a.a", false}, {"a.a.a", "a.a", true},
		// empty labels
		{"a.", "", true}, {".a", "a", true}, {"a..", ".", true}, {"..", ".", true}, {".", "..", false}, {"a.", ".", false}, {"..a", ".a", true}, {"a.b", ".b", false}, {"a..b", ".b", true}, {"a..b", "b", true}, {"a.", "a", false}, {"a", "a.", false}, {"x.a.", "a.", true}, {"x.a.", "A.", true}, {"xa.", "a.", false},
		{strings.Repeat("a.", 3000) + "b", strings.Repeat("A.", 2999) + "B", true}, {strings.Repeat("a.", 2999) + "b", strings.Repeat("A.", 3000) + "B", false},
	} {
		if name.Below(c.a, c.b) != c.want {
			t.Errorf("20.3: Below(%q, %q), want %v", some(c.a), some(c.b), c.want)
		}
	}
}

// 20.4

func TestParent(t *testing.T) {
	for s, want := range map[string]string{
		"a": "", "abc": "", "\x00": "", "\xFF": "", "a.b": "b", "a.b.c": "b.c", "www.Example.COM": "Example.COM", "a.b.c.d.e": "b.c.d.e",
		".": "", "..": ".", "...": "..", ".a": "a", "..a": ".a", "a.": "", "a..": ".", "a..b": ".b", "\x00.\xFF\x00.z": "\xFF\x00.z", "a\xAEb.c": "c",
	} {
		if p, ok := name.Parent(s); p != want || !ok {
			t.Errorf("20.4: Parent(%q): %q, %v, want %q", s, p, ok, want)
		}
	}
	if p, ok := name.Parent(""); p != "" || ok {
		t.Errorf("20.4: Parent of the root: %q, %v", p, ok)
	}
}

func TestSorted(t *testing.T) {
	for _, c := range []struct{ l, want []string }{
		{nil, nil}, {[]string{}, nil}, {[]string{""}, []string{""}}, {[]string{"b"}, []string{"b"}}, {[]string{"A."}, []string{"A."}},
		{[]string{"b", "a"}, []string{"a", "b"}}, {[]string{"a", "b"}, []string{"a", "b"}}, {[]string{"a", ""}, []string{"", "a"}},
		{[]string{"b.a", "a", "b", "a.a"}, []string{"a", "a.a", "b.a", "b"}},
		{[]string{"com", "org", "a.org", "z.com", "", "A.z.COM", "y.com", ".", "com."}, []string{"", ".", "com.", "com", "y.com", "z.com", "A.z.COM", "org", "a.org"}},
		// alike ones as they stood, also just the same ones
		{[]string{"A", "a"}, []string{"A", "a"}}, {[]string{"a", "A"}, []string{"a", "A"}}, {[]string{"a", "a", "a"}, []string{"a", "a", "a"}}, {[]string{"", ""}, []string{"", ""}},
		{[]string{"b.C", "B.c", "a.c", "b.c", "A.c", "B.C", "c"}, []string{"c", "a.c", "A.c", "b.C", "B.c", "b.c", "B.C"}},
	} {
		if l := name.Sorted(c.l...); !slices.Equal(l, c.want) {
			t.Errorf("20.4: Sorted(%q): %q, want %q", c.l, l, c.want)
		}
	}
	if l := name.Sorted(); len(l) != 0 {
		t.Errorf("20.4: Sorted(): %q", l)
	}
}

func TestSortedMany(t *testing.T) {
	draw := rand.New(rand.NewPCG(20, 4))
	for _, n := range []int{2, 3, 5, 11, 12, 13, 20, 21, 40, 41, 100, 333, 1000} {
		for range 20 {
			l := make([]string, n)
			for i := range l {
				l[i] = drawnName(draw)
			}
			want := inOrder(l)
			for _, names := range [][]string{l, want} {
				if got := name.Sorted(names...); !slices.Equal(got, want) {
					t.Fatalf("20.4: Sorted(%q): %q, want %q", names, got, want)
				}
			}
		}
	}
	// alike ones alone, in many ways: none may change its place
	var l []string
	for i := range 3000 {
		b := []byte("abcdefghijkl.example")
		for k := range 12 {
			if i>>k&1 == 1 {
				b[k] -= 'a' - 'A'
			}
		}
		l = append(l, string(b))
	}
	draw.Shuffle(len(l), func(i, k int) { l[i], l[k] = l[k], l[i] })
	if got := name.Sorted(l...); !slices.Equal(got, l) {
		t.Error("20.4: Sorted: alike ones changed their places")
	}
}

// What is handed in stays as it is, its spare room too; what comes is the caller's own.
func TestSortedMemory(t *testing.T) {
	for _, n := range []int{1, 2, 4, 30} {
		room := make([]string, n+8)
		for i := range room {
			room[i] = letters(len(room) - i)
		}
		was := slices.Clone(room)
		l := name.Sorted(room[:n]...)
		want := slices.Clone(l)
		if !slices.Equal(room, was) {
			t.Fatalf("20.4: Sorted changed what it was handed: %q", room)
		}
		for i := range room {
			room[i] = "x"
		}
		if !slices.Equal(l, want) || len(l) != n {
			t.Fatalf("20.4: Sorted kept what it was handed: %q", l)
		}
		copy(room, was)
		for i := range l[:cap(l)] {
			l[:cap(l)][i] = "y"
		}
		if !slices.Equal(room, was) {
			t.Fatalf("20.4: what Sorted told is what it was handed: %q", room)
		}
		if again := name.Sorted(room[:n]...); !slices.Equal(again, want) {
			t.Fatalf("20.4: Sorted again: %q", again)
		}
	}
}

// 20.3 and 20.4 of all short names and drawn ones, by the words.
func TestOrderByWords(t *testing.T) {
	check := func(a, b string) {
		if n, want := name.Compare(a, b), compared(a, b); n != want {
			t.Fatalf("20.3: Compare(%q, %q): %d, want %d", a, b, n, want)
		}
		if name.Below(a, b) != below(a, b) {
			t.Fatalf("20.3: Below(%q, %q), want %v", a, b, below(a, b))
		}
	}
	l := allTexts(".aAb\xFF", 4)
	for _, a := range l {
		for _, b := range l[:156] {
			check(a, b)
			check(b, a)
		}
	}
	draw := rand.New(rand.NewPCG(20, 5))
	for range 100000 {
		a, b := drawnName(draw), drawnName(draw)
		check(a, b)
		check(a+"."+b, b)
		check(a+b, b)
	}
	for _, s := range append(l, drawnFit(draw), drawnFit(draw)) {
		want, wantOK := parted(s)
		if p, ok := name.Parent(s); p != want || ok != wantOK {
			t.Fatalf("20.4: Parent(%q): %q, %v, want %q", s, p, ok, want)
		}
	}
}
