package wire_test

import (
	"bytes"
	"encoding/binary"
	"hash/crc32"
	"math"
	"math/rand/v2"
	"slices"
	"strings"
	"testing"

	"endonym/api"
	"endonym/wire"
)

// numbers are all small ones, those round each power of two, and a draw that is the same each time.
func numbers() []int {
	l := []int{}
	for n := range 1000 {
		l = append(l, n)
	}
	for i := 10; i < 63; i++ {
		l = append(l, 1<<i-1, 1<<i, 1<<i+1)
	}
	draw := rand.New(rand.NewPCG(1, 1))
	for range 2000 {
		l = append(l, int(draw.Uint64()>>(1+draw.IntN(63))))
	}
	return append(l, math.MaxInt-1, math.MaxInt)
}

func texts() []string {
	return []string{"", "a", "ab", "\x00", "\x80\xff", "bücher", strings.Repeat("x", 127), strings.Repeat("y", 128), strings.Repeat("z", 20000)}
}

// floatBits are the bits of floats of each kind: noughts, least ones, infinities, NaNs that are quiet, signalling, below 0.
func floatBits() []uint64 {
	l := []uint64{
		0, 1 << 63, 1, 1<<63 | 1, 0x3FF0000000000000, 0x3FB999999999999A, 0x0102030405060708,
		0x7FEFFFFFFFFFFFFF, 0x7FF0000000000000, 0xFFF0000000000000,
		0x7FF8000000000000, 0x7FF8000000000001, 0x7FF0000000000001, 0xFFF0000000000001, 0xFFFFFFFFFFFFFFFF,
	}
	draw := rand.New(rand.NewPCG(3, 3))
	for range 500 {
		l = append(l, draw.Uint64())
	}
	return l
}

// within is b with other bytes ahead and behind, and the place of b.
func within(b []byte) ([]byte, int) {
	return slices.Concat([]byte{128, 0, 255}, b, []byte{0, 1, 255, 128}), 3
}

// 1.1

func TestUintWritesGroups(t *testing.T) {
	for _, c := range []struct {
		n    int
		want []byte
	}{
		{0, []byte{0}}, {1, []byte{1}}, {127, []byte{127}}, {128, []byte{128, 1}}, {300, []byte{172, 2}},
		{16383, []byte{255, 127}}, {16384, []byte{128, 128, 1}},
		{1 << 56, []byte{128, 128, 128, 128, 128, 128, 128, 128, 1}},
		{math.MaxInt, []byte{255, 255, 255, 255, 255, 255, 255, 255, 127}},
		{-1, nil}, {-128, nil}, {math.MinInt, nil},
	} {
		if b := wire.Uint(c.n); !bytes.Equal(b, c.want) {
			t.Errorf("Uint(%d): %v, want %v", c.n, b, c.want)
		}
	}
	for _, n := range numbers() {
		if b, want := wire.Uint(n), binary.AppendUvarint(nil, uint64(n)); !bytes.Equal(b, want) {
			t.Errorf("Uint(%d): %v, want %v", n, b, want)
		}
	}
}

func TestReadUintReads(t *testing.T) {
	for _, c := range []struct {
		b           []byte
		at, n, next int
	}{
		{[]byte{0}, 0, 0, 1}, {[]byte{127}, 0, 127, 1}, {[]byte{128, 1}, 0, 128, 2}, {[]byte{172, 2, 9}, 0, 300, 2},
		{[]byte{128, 0, 5, 0}, 2, 5, 3}, {[]byte{172, 2}, 1, 2, 2}, {[]byte{0, 0}, 0, 0, 1},
		{[]byte{255, 255, 255, 255, 255, 255, 255, 255, 127}, 0, math.MaxInt, 9},
		{[]byte{128, 128, 128, 128, 128, 128, 128, 128, 1, 128}, 0, 1 << 56, 9},
	} {
		if n, next, e := wire.ReadUint(c.b, c.at); n != c.n || next != c.next || e != api.OK {
			t.Errorf("ReadUint(%v, %d): %d, %d, %d", c.b, c.at, n, next, int(e))
		}
	}
}

func TestReadUintRefuses(t *testing.T) {
	eight := bytes.Repeat([]byte{128}, 8)
	for _, c := range []struct {
		b    []byte
		at   int
		want api.Errno
	}{
		{nil, 0, api.ErrShort}, {[]byte{}, 0, api.ErrShort}, {[]byte{5}, 1, api.ErrShort}, {[]byte{128}, 0, api.ErrShort}, {[]byte{5, 255, 255}, 1, api.ErrShort},
		{nil, 1, api.ErrArg}, {nil, -1, api.ErrArg}, {[]byte{5}, -1, api.ErrArg}, {[]byte{5}, 2, api.ErrArg}, {[]byte{5}, math.MinInt, api.ErrArg}, {[]byte{5}, math.MaxInt, api.ErrArg},
		{[]byte{128, 0}, 0, api.ErrForm}, {[]byte{255, 0}, 0, api.ErrForm}, {[]byte{128, 128, 0, 1}, 0, api.ErrForm}, {[]byte{1, 129, 0}, 1, api.ErrForm},
		{eight, 0, api.ErrShort}, {append(slices.Clone(eight), 0), 0, api.ErrForm},
		{append(slices.Clone(eight), 128), 0, api.ErrWide}, {append(slices.Clone(eight), 255), 0, api.ErrWide}, {append(slices.Clone(eight), 128, 1), 0, api.ErrWide}, {append(slices.Clone(eight), 128, 0), 0, api.ErrWide},
	} {
		if n, next, e := wire.ReadUint(c.b, c.at); n != 0 || next != 0 || e != c.want {
			t.Errorf("ReadUint(%v, %d): %d, %d, %d, want %d", c.b, c.at, n, next, int(e), int(c.want))
		}
	}
}

// 1.2

func TestTextWritesLengthAndBytes(t *testing.T) {
	for _, c := range []struct {
		s    string
		want []byte
	}{{"", []byte{0}}, {"ab", []byte{2, 97, 98}}, {"\x00\xff", []byte{2, 0, 255}}, {"ü", []byte{2, 0xC3, 0xBC}}} {
		if b := wire.Text(c.s); !bytes.Equal(b, c.want) {
			t.Errorf("Text(%q): %v, want %v", c.s, b, c.want)
		}
	}
	long := strings.Repeat("x", 300)
	if b := wire.Text(long); !bytes.Equal(b, append([]byte{172, 2}, long...)) {
		t.Errorf("Text of 300 bytes begins with %v", b[:2])
	}
}

func TestReadText(t *testing.T) {
	greatest := []byte{255, 255, 255, 255, 255, 255, 255, 255, 127, 1}
	for _, c := range []struct {
		b        []byte
		at, most int
		s        string
		next     int
		want     api.Errno
	}{
		{[]byte{9, 2, 97, 98, 9}, 1, 2, "ab", 4, api.OK}, {[]byte{2, 97, 98}, 0, math.MaxInt, "ab", 3, api.OK},
		{[]byte{0}, 0, 0, "", 1, api.OK}, {[]byte{1, 255}, 0, 1, "\xff", 2, api.OK},
		{[]byte{2, 97, 98, 9}, 0, 1, "", 0, api.ErrMany}, {[]byte{1, 97}, 0, 0, "", 0, api.ErrMany},
		{[]byte{5}, 0, 1, "", 0, api.ErrMany}, {greatest, 0, math.MaxInt - 1, "", 0, api.ErrMany},
		{[]byte{2, 97}, 0, 5, "", 0, api.ErrShort}, {[]byte{2, 97}, 0, 2, "", 0, api.ErrShort}, {[]byte{1}, 0, 1, "", 0, api.ErrShort},
		{greatest, 0, math.MaxInt, "", 0, api.ErrShort}, {[]byte{0}, 1, 5, "", 0, api.ErrShort}, {nil, 0, 0, "", 0, api.ErrShort}, {[]byte{129}, 0, 0, "", 0, api.ErrShort},
		{[]byte{128, 0}, 0, 9, "", 0, api.ErrForm}, {[]byte{128, 0}, 0, 0, "", 0, api.ErrForm}, {bytes.Repeat([]byte{128}, 9), 0, 0, "", 0, api.ErrWide},
		{[]byte{0}, 0, -1, "", 0, api.ErrArg}, {[]byte{128, 0}, 0, -1, "", 0, api.ErrArg}, {nil, 0, math.MinInt, "", 0, api.ErrArg},
		{[]byte{0}, 2, 9, "", 0, api.ErrArg}, {[]byte{0}, -1, 9, "", 0, api.ErrArg}, {[]byte{0}, 2, -1, "", 0, api.ErrArg}, {[]byte{0}, math.MaxInt, 0, "", 0, api.ErrArg}, {[]byte{0}, math.MinInt, 0, "", 0, api.ErrArg},
	} {
		if s, next, e := wire.ReadText(c.b, c.at, c.most); s != c.s || next != c.next || e != c.want {
			t.Errorf("ReadText(%v, %d, %d): %q, %d, %d, want %q, %d, %d", c.b, c.at, c.most, s, next, int(e), c.s, c.next, int(c.want))
		}
	}
}

// 1.3

func TestFloatWritesLowestByteFirst(t *testing.T) {
	if b := wire.Float(1); !bytes.Equal(b, []byte{0, 0, 0, 0, 0, 0, 240, 63}) {
		t.Errorf("Float(1): %v", b)
	}
	for _, u := range floatBits() {
		if b, want := wire.Float(api.Float(u)), binary.LittleEndian.AppendUint64(nil, u); !bytes.Equal(b, want) {
			t.Errorf("Float of the bits %x: %v, want %v", u, b, want)
		}
	}
}

func TestReadFloat(t *testing.T) {
	for _, u := range floatBits() {
		b := binary.LittleEndian.AppendUint64(nil, u)
		if a, next, e := wire.ReadFloat(b, 0); api.Bits(a) != u || next != 8 || e != api.OK {
			t.Errorf("ReadFloat of the bits %x: %x, %d, %d", u, api.Bits(a), next, int(e))
		}
	}
	nine := []byte{9, 0, 0, 0, 0, 0, 0, 240, 63}
	for _, c := range []struct {
		b    []byte
		at   int
		want api.Errno
	}{
		{nine, 2, api.ErrShort}, {nine, 9, api.ErrShort}, {nine[:7], 0, api.ErrShort}, {nil, 0, api.ErrShort},
		{nine, -1, api.ErrArg}, {nine, 10, api.ErrArg}, {nine, math.MinInt, api.ErrArg}, {nine, math.MaxInt, api.ErrArg}, {nil, 1, api.ErrArg},
	} {
		if a, next, e := wire.ReadFloat(c.b, c.at); api.Bits(a) != 0 || next != 0 || e != c.want {
			t.Errorf("ReadFloat(%v, %d): %v, %d, %d, want %d", c.b, c.at, a, next, int(e), int(c.want))
		}
	}
}

// 1.4

func TestSum(t *testing.T) {
	for _, c := range []struct {
		parts [][]byte
		want  uint32
	}{
		{nil, 0}, {[][]byte{nil}, 0}, {[][]byte{{}, {}}, 0},
		{[][]byte{[]byte("123456789")}, 0xE3069283}, {[][]byte{[]byte("1234"), []byte("56789")}, 0xE3069283},
		{[][]byte{nil, []byte("1"), {}, []byte("23456789"), nil}, 0xE3069283},
		{[][]byte{make([]byte, 32)}, 0x8A9136AA}, {[][]byte{bytes.Repeat([]byte{255}, 32)}, 0x62A8AB43},
	} {
		if s := wire.Sum(c.parts...); s != c.want {
			t.Errorf("Sum(%v): %08X, want %08X", c.parts, s, c.want)
		}
	}
	b := drawn(2000)
	castagnoli := crc32.MakeTable(crc32.Castagnoli)
	for i := range b {
		if s, want := wire.Sum(b[:i]), crc32.Checksum(b[:i], castagnoli); s != want {
			t.Fatalf("Sum of %d bytes: %08X, want %08X", i, s, want)
		}
		if wire.Sum(b[:i], b[i:]) != wire.Sum(b) {
			t.Fatalf("Sum hangs on a cut at %d", i)
		}
	}
}

// 1.5

func TestJoined(t *testing.T) {
	for _, c := range []struct {
		parts [][]byte
		want  []byte
	}{
		{nil, nil}, {[][]byte{nil, {}}, nil}, {[][]byte{{1, 2}}, []byte{1, 2}}, {[][]byte{{1, 2}, nil, {3}, {}}, []byte{1, 2, 3}}, {[][]byte{{3}, {1}, {3}}, []byte{3, 1, 3}},
	} {
		if j := wire.Joined(c.parts...); !bytes.Equal(j, c.want) {
			t.Errorf("Joined(%v): %v, want %v", c.parts, j, c.want)
		}
	}
}

// room is bytes with known spare room behind, and all of its memory.
func room() (b, all []byte) {
	all = []byte{1, 2, 3, 7, 7, 7}
	return all[:3], all
}

func TestJoinedIsNewMemory(t *testing.T) {
	for _, others := range [][][]byte{nil, {nil}, {{8}}, {{8}, {9}}} {
		b, all := room()
		parts := append([][]byte{b}, others...)
		j := wire.Joined(parts...)
		for i := range j {
			j[i] = 99
		}
		_ = append(j, 99, 99, 99)
		if want := []byte{1, 2, 3, 7, 7, 7}; !bytes.Equal(all, want) || len(parts[0]) != 3 {
			t.Errorf("Joined with %v behind changed what it was handed: %v", others, all)
		}
	}
}

func TestAnswersAreNewMemory(t *testing.T) {
	for _, write := range []func() []byte{
		func() []byte { return wire.Uint(5) },
		func() []byte { return wire.Text("ab") },
		func() []byte { return wire.Float(1) },
	} {
		first, second := write(), write()
		kept := slices.Clone(second)
		full := first[:cap(first)]
		for i := range full {
			full[i] = 99
		}
		if !bytes.Equal(second, kept) {
			t.Errorf("two answers share memory: %v", second)
		}
	}
}

func TestReadsLeaveWhatTheyAreHanded(t *testing.T) {
	b := slices.Concat([]byte{2, 97, 98}, wire.Float(1), []byte{7, 7})[:11]
	kept := slices.Clone(b[:13])
	s, _, _ := wire.ReadText(b, 0, 9)
	wire.ReadUint(b, 0)
	wire.ReadFloat(b, 3)
	wire.Sum(b, b[1:])
	if !bytes.Equal(b[:13], kept) {
		t.Errorf("what was handed in is changed: %v", b[:13])
	}
	clear(b)
	if s != "ab" {
		t.Errorf("a text that was read changed with its bytes: %q", s)
	}
}

// 1.6

func TestWrittenIsRead(t *testing.T) {
	for _, want := range numbers() {
		b := wire.Uint(want)
		all, at := within(b)
		if n, next, e := wire.ReadUint(all, at); n != want || next != at+len(b) || e != api.OK {
			t.Errorf("ReadUint of Uint(%d): %d, %d, %d", want, n, next, int(e))
		}
	}
	for _, want := range texts() {
		b := wire.Text(want)
		all, at := within(b)
		for _, most := range []int{len(want), len(want) + 1, math.MaxInt} {
			if s, next, e := wire.ReadText(all, at, most); s != want || next != at+len(b) || e != api.OK {
				t.Errorf("ReadText of Text of %d bytes: %d bytes, %d, %d", len(want), len(s), next, int(e))
			}
		}
	}
	for _, u := range floatBits() {
		all, at := within(wire.Float(api.Float(u)))
		if a, next, e := wire.ReadFloat(all, at); api.Bits(a) != u || next != at+8 || e != api.OK {
			t.Errorf("ReadFloat of Float of the bits %x: %x, %d, %d", u, api.Bits(a), next, int(e))
		}
	}
}

func TestReadIsWritten(t *testing.T) {
	check := func(b []byte) {
		if n, next, e := wire.ReadUint(b, 0); e == api.OK && !bytes.Equal(wire.Uint(n), b[:next]) {
			t.Errorf("ReadUint(%v) is %d, which is written %v", b, n, wire.Uint(n))
		}
		if s, next, e := wire.ReadText(b, 0, math.MaxInt); e == api.OK && !bytes.Equal(wire.Text(s), b[:next]) {
			t.Errorf("ReadText(%v) is %q, which is written %v", b, s, wire.Text(s))
		}
		if a, next, e := wire.ReadFloat(b, 0); e == api.OK && !bytes.Equal(wire.Float(a), b[:next]) {
			t.Errorf("ReadFloat(%v) is written %v", b, wire.Float(a))
		}
	}
	for i := range 1 << 16 {
		check([]byte{byte(i), byte(i >> 8)})
		check([]byte{128, byte(i), byte(i >> 8)})
	}
	draw := rand.New(rand.NewPCG(4, 4))
	for range 20000 {
		b := drawnBy(draw, draw.IntN(14))
		// Without these bits hardly one of the numbers drawn would have nine groups.
		for i := range draw.IntN(10) {
			if i < len(b) {
				b[i] |= 128
			}
		}
		check(b)
	}
}

// 1.7

func TestNoNumberBeginsAnother(t *testing.T) {
	written := map[string]int{}
	for _, n := range numbers() {
		written[string(wire.Uint(n))] = n
	}
	for s, n := range written {
		for i := range len(s) {
			if m, ok := written[s[:i]]; ok {
				t.Errorf("Uint(%d) is the beginning of Uint(%d)", m, n)
			}
		}
	}
	for _, n := range numbers() {
		if written[string(wire.Uint(n))] != n {
			t.Errorf("Uint(%d) is another number's bytes", n)
		}
	}
}

func TestBeginningsAreShort(t *testing.T) {
	for _, n := range numbers() {
		b := wire.Uint(n)
		for i := range b {
			if n, next, e := wire.ReadUint(b[:i], 0); n != 0 || next != 0 || e != api.ErrShort {
				t.Errorf("ReadUint(%v): %d, %d, %d", b[:i], n, next, int(e))
			}
		}
	}
	for _, s := range texts() {
		b := wire.Text(s)
		for i := range b {
			if got, next, e := wire.ReadText(b[:i], 0, len(s)); got != "" || next != 0 || e != api.ErrShort {
				t.Errorf("ReadText of %d bytes of %d: %q, %d, %d", i, len(b), got, next, int(e))
			}
		}
	}
	for _, u := range floatBits() {
		b := wire.Float(api.Float(u))
		for i := range b {
			if a, next, e := wire.ReadFloat(b[:i], 0); api.Bits(a) != 0 || next != 0 || e != api.ErrShort {
				t.Errorf("ReadFloat(%v): %v, %d, %d", b[:i], a, next, int(e))
			}
		}
	}
}

// 1.8

func drawnBy(draw *rand.Rand, size int) []byte {
	b := make([]byte, size)
	for i := range b {
		b[i] = byte(draw.Uint32())
	}
	return b
}

func drawn(size int) []byte {
	return drawnBy(rand.New(rand.NewPCG(2, 2)), size)
}

// turned is the Sum of b with some bits turned over, which stand again behind the call.
func turned(b []byte, places ...int) uint32 {
	turn := func() {
		for _, p := range places {
			b[p/8] ^= 1 << (p % 8)
		}
	}
	turn()
	defer turn()
	return wire.Sum(b)
}

// pattern is the places of the bits that are set in a pattern laid at a place.
func pattern(at int, bits uint32) []int {
	l := []int{}
	for i := range 32 {
		if bits>>i&1 != 0 {
			l = append(l, at+i)
		}
	}
	return l
}

func TestUpToThreeTurnedBitsAreTold(t *testing.T) {
	b := drawn(6)
	want := wire.Sum(b)
	check := func(places ...int) {
		if turned(b, places...) == want {
			t.Errorf("the bits %v turned over are not told", places)
		}
	}
	for i := range 8 * len(b) {
		check(i)
		for j := range i {
			check(i, j)
			for k := range j {
				check(i, j, k)
			}
		}
	}
}

func TestTurnedBitsWithin32AreTold(t *testing.T) {
	draw := rand.New(rand.NewPCG(5, 5))
	b := drawn(12)
	want := wire.Sum(b)
	for at := range 8*len(b) - 31 {
		for i := range 32 {
			if turned(b, pattern(at, ^uint32(0)>>i)...) == want {
				t.Fatalf("%d bits from %d on turned over are not told", 32-i, at)
			}
		}
		for range 2000 {
			bits := draw.Uint32()
			if bits != 0 && turned(b, pattern(at, bits)...) == want {
				t.Fatalf("the bits %08X at %d turned over are not told", bits, at)
			}
		}
	}
}

func TestTurnedBitsOfManyBytesAreTold(t *testing.T) {
	draw := rand.New(rand.NewPCG(6, 6))
	b := drawn(100000)
	want := wire.Sum(b)
	draws := [][]int{{0}, {799999}, {0, 799999}, {0, 1, 799999}, {0, 400000, 799999}}
	for range 60 {
		i, j, k := draw.IntN(800000), draw.IntN(800000), draw.IntN(800000)
		if i == j || j == k || i == k {
			continue
		}
		draws = append(draws, []int{i}, []int{i, j}, []int{i, j, k}, pattern(draw.IntN(800000-31), draw.Uint32()|1))
	}
	for _, places := range draws {
		if turned(b, places...) == want {
			t.Errorf("the bits %v turned over are not told", places)
		}
	}
}
