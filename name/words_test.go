package name_test

import (
	"math/rand/v2"
	"slices"
	"strings"

	"endonym/api"
)

// What the chapter's words say, by other ways than the program's.

// cut goes through the bytes one by one; each full stop begins another label.
func cut(s string) [][]byte {
	if len(s) == 0 {
		return nil
	}
	l := [][]byte{nil}
	for i := 0; i < len(s); i++ {
		if s[i] == 0x2E {
			l = append(l, nil)
			continue
		}
		l[len(l)-1] = append(l[len(l)-1], s[i])
	}
	return l
}

// folded is a text whose letters A to Z are a to z, by a list of these.
func folded(s string) string {
	b := []byte(s)
	for i, c := range b {
		if k := strings.IndexByte("ABCDEFGHIJKLMNOPQRSTUVWXYZ", c); k >= 0 {
			b[i] = "abcdefghijklmnopqrstuvwxyz"[k]
		}
	}
	return string(b)
}

// key is a list of numbers by which names stand in their order: ahead of each label, from the last one on, a 1, its bytes
// one greater, a 0 behind them; a 0 at last.
func key(s string) []int {
	l := cut(folded(s))
	slices.Reverse(l)
	var k []int
	for _, label := range l {
		k = append(k, 1)
		for _, c := range label {
			k = append(k, int(c)+1)
		}
		k = append(k, 0)
	}
	return append(k, 0)
}

func compared(a, b string) int { return slices.Compare(key(a), key(b)) }

// below is whether b's labels, as they are told by its key, begin a's key.
func below(a, b string) bool {
	k, begin := key(a), key(b)
	begin = begin[:len(begin)-1]
	return len(k) >= len(begin) && slices.Equal(k[:len(begin)], begin)
}

// packed puts in how many bytes each label has where its full stop would stand ahead of it.
func packed(s string) ([]byte, api.Errno) {
	l := cut(s)
	for _, label := range l {
		if len(label) < 1 || len(label) > 63 {
			return nil, api.ErrLabel
		}
	}
	if len(s) > 253 {
		return nil, api.ErrLong
	}
	if len(l) == 0 {
		return []byte{0}, api.OK
	}
	b := []byte("." + s + "\x00")
	at := 0
	for _, label := range l {
		b[at] = byte(len(label))
		at += 1 + len(label)
	}
	return b, api.OK
}

// unpacked takes byte after byte: a length, or one of the bytes that the last length still wants.
func unpacked(b []byte, at int) (string, int, api.Errno) {
	if at < 0 || at > len(b) {
		return "", 0, api.ErrArg
	}
	var text []byte
	wants, stops := 0, 0
	for i := at; i < len(b); i++ {
		c := b[i]
		if wants > 0 {
			text = append(text, c)
			if c == 0x2E {
				stops++
			}
			wants--
			if wants == 0 && stops > 0 {
				return "", 0, api.ErrLabel
			}
			continue
		}
		switch {
		case c > 63:
			return "", 0, api.ErrLabel
		case c > 0:
			wants = int(c)
			if i > at {
				text = append(text, 0x2E)
			}
		case len(text) > 253:
			return "", 0, api.ErrLong
		default:
			return string(text), i + 1, api.OK
		}
	}
	return "", 0, api.ErrShort
}

// parted is the labels but the first, joined again.
func parted(s string) (string, bool) {
	l := cut(s)
	if len(l) == 0 {
		return "", false
	}
	p := ""
	for i, label := range l[1:] {
		if i > 0 {
			p += "."
		}
		p += string(label)
	}
	return p, true
}

// inOrder puts each name behind all that are not behind it.
func inOrder(l []string) []string {
	var out []string
	var keys [][]int
	for _, s := range l {
		k, at := key(s), len(out)
		for at > 0 && slices.Compare(keys[at-1], k) > 0 {
			at--
		}
		out, keys = slices.Insert(out, at, s), slices.Insert(keys, at, k)
	}
	return out
}

// allTexts are all texts of so many bytes at most, of these bytes.
func allTexts(alphabet string, most int) []string {
	l := []string{""}
	for from := 0; most > 0; most-- {
		upTo := len(l)
		for _, s := range l[from:upTo] {
			for i := range len(alphabet) {
				l = append(l, s+alphabet[i:i+1])
			}
		}
		from = upTo
	}
	return l
}

// drawnName has labels that many others have too, so that names are often alike, below one another, or nearly so.
func drawnName(draw *rand.Rand) string {
	pieces := []string{"", "a", "A", "b", "B", "z", "Z", "[", "@", "`", "{", "ab", "aB", "Abc", "a-b", "com", "COM", "Com", "example", "\x00", "\x80", "\xE1", "\xC1", "\xFF", "bücher", "BÜCHER"}
	if draw.IntN(4) > 0 {
		pieces = pieces[1:7]
	}
	l := make([]string, draw.IntN(6))
	for i := range l {
		l[i] = pieces[draw.IntN(len(pieces))]
	}
	return strings.Join(l, ".")
}

// drawnFit is a name that Pack takes: labels of 1 to 63 bytes, 253 bytes in all at most, any bytes but the full stop.
func drawnFit(draw *rand.Rand) string {
	var l []string
	most := draw.IntN(254)
	for left := most; left > 0; {
		size := min(1+draw.IntN(63), left)
		if draw.IntN(3) == 0 {
			size = min(63, left)
		}
		b := make([]byte, size)
		for i := range b {
			b[i] = byte(draw.IntN(256))
			if b[i] == 0x2E {
				b[i] = 0x2F
			}
		}
		l = append(l, string(b))
		left -= size + 1
	}
	return strings.Join(l, ".")
}
