package name

import (
	"strings"

	"endonym/api"
)

// readLabels reads labels up to a length 0, and tells the place behind it.
func readLabels(b []byte, at int) (labels []string, next int, e api.Errno) {
	for {
		label, behind, e := readLabel(b, at)
		if e != api.OK {
			return nil, 0, e
		}
		if label == "" {
			return labels, behind, api.OK
		}
		labels = append(labels, label)
		at = behind
	}
}

// readLabel reads one label at a place within b, or the empty text at a length 0.
func readLabel(b []byte, at int) (label string, next int, e api.Errno) {
	if at == len(b) {
		return "", 0, api.ErrShort
	}
	size := int(b[at])
	// A length that may not be is told by itself, whether or not so many bytes are left.
	if size > maxLabel {
		return "", 0, api.ErrLabel
	}
	next = at + 1 + size
	if next > len(b) {
		return "", 0, api.ErrShort
	}
	label = string(b[at+1 : next])
	if strings.Contains(label, stop) {
		return "", 0, api.ErrLabel
	}
	return label, next, api.OK
}
