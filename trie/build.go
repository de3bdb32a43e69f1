package trie

import "endonym/api"

// firstFault is the place of the first range that may not be, and why; the place behind them all, if def may not be.
func firstFault(l []api.Range, def int) (int, api.Errno) {
	behind := -1
	for i, r := range l {
		if e := fault(r, behind); e != api.OK {
			return i, e
		}
		behind = r.Hi
	}
	if !isValue(def) {
		return len(l), api.ErrValue
	}
	return 0, api.OK
}

// fault is what is wrong with a range that must lie behind a code point.
func fault(r api.Range, behind int) api.Errno {
	switch {
	case r.Lo < 0 || r.Hi > api.MaxRune || r.Lo > r.Hi:
		return api.ErrRange
	case !isValue(r.Value):
		return api.ErrValue
	case r.Lo <= behind:
		return api.ErrOrder
	}
	return api.OK
}

func isValue(n int) bool { return n >= 0 && n <= maxValue }

// compiled is the trie of ranges with which nothing is wrong.
func compiled(l []api.Range, def int) *Trie {
	t := &Trie{index: make([]uint16, pieces), fallback: def}
	numbers := map[block]uint16{}
	for piece := range pieces {
		lo := piece * blockSize
		l = reaching(l, lo)
		b := values(l, lo, def)
		n, met := numbers[b]
		if !met {
			n = uint16(len(t.blocks))
			numbers[b] = n
			t.blocks = append(t.blocks, b)
		}
		t.index[piece] = n
	}
	return t
}

// reaching is the ranges that do not end ahead of lo.
func reaching(l []api.Range, lo int) []api.Range {
	for len(l) > 0 && l[0].Hi < lo {
		l = l[1:]
	}
	return l
}

// values is the block of the piece that begins at lo, none of whose ranges ends ahead of it.
func values(l []api.Range, lo, def int) block {
	var b block
	for i := range b {
		b[i] = uint16(def)
	}
	end := lo + blockSize
	for _, r := range l {
		if r.Lo >= end {
			break
		}
		for c := max(r.Lo, lo); c < min(r.Hi+1, end); c++ {
			b[c-lo] = uint16(r.Value)
		}
	}
	return b
}
