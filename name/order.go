package name

import (
	"cmp"
	"slices"
	"strings"
)

// against holds the labels of a and b against each other, from the last one on: n is how the first that differ compare;
// if none differs, it is told whether a or b has labels left.
func against(a, b string) (n int, leftA, leftB bool) {
	leftA, leftB = a != "", b != ""
	for leftA && leftB {
		var x, y string
		a, x, leftA = cutLast(a)
		b, y, leftB = cutLast(b)
		if n = compareLabels(x, y); n != 0 {
			return n, false, false
		}
	}
	return 0, leftA, leftB
}

// cutLast cuts off the last label. That labels are left can't be seen by what is ahead: that is empty too where one
// empty label is left.
func cutLast(s string) (ahead, last string, left bool) {
	at := strings.LastIndex(s, stop)
	if at < 0 {
		return "", s, false
	}
	return s[:at], s[at+len(stop):], true
}

// compareLabels is -1, 0 or 1, A to Z read as a to z.
func compareLabels(x, y string) int {
	for i := range min(len(x), len(y)) {
		if n := cmp.Compare(small(x[i]), small(y[i])); n != 0 {
			return n
		}
	}
	return cmp.Compare(len(x), len(y))
}

func small(c byte) byte {
	if c >= 'A' && c <= 'Z' {
		return c + ('a' - 'A')
	}
	return c
}

// sorted is a list of its own with what l has, rising by compare; alike ones stay as they stood.
func sorted[T any](l []T, compare func(a, b T) int) []T {
	own := slices.Clone(l)
	slices.SortStableFunc(own, compare)
	return own
}
