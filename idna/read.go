package idna

import (
	"endonym/api"
	"endonym/label"
	"endonym/norm"
	"endonym/puny"
	"endonym/remap"
	"endonym/scalar"
)

// reading is what came of reading a label as Punycode; of a label that is not Coded its zero value.
type reading struct {
	decoded bool     // what Punycode tells has taken its place
	refused api.Errs // why it stays as it is
}

// cut is the labels of a text, mapped and normal, not yet read; or why there are none. NFC never refuses: there is Data, and
// Map tells no more than it takes.
func (e *Engine) cut(s string) ([][]rune, api.Errs) {
	if len(s) > api.MaxText {
		return nil, api.TooLong
	}
	x, _, no := scalar.Decode(s)
	if no != api.OK {
		return nil, api.BadEncoding
	}
	x, no = remap.Map(e.data, x, e.Flags())
	if no != api.OK {
		return nil, api.TooLong
	}
	x, _ = norm.NFC(e.data, x)
	return scalar.Split(x), 0
}

// readEach reads the labels, and lays those that are decoded where they stood.
func readEach(labels [][]rune) []reading {
	readings := make([]reading, len(labels))
	for i, x := range labels {
		labels[i], readings[i] = read(x)
	}
	return readings
}

// read is what stands in a label's place. That it be ASCII is not asked ahead of it: Decode takes nothing else. Nor is it
// asked of what comes whether it is empty: then it is ASCII too.
func read(x []rune) ([]rune, reading) {
	if !label.Coded(x) {
		return x, reading{}
	}
	y, no := puny.Decode(text(x[len(prefix):]))
	switch {
	case no != api.OK:
		return x, reading{refused: api.BadPunycode}
	case scalar.ASCII(y):
		return x, reading{refused: api.BadPlain}
	}
	return y, reading{decoded: true}
}

// wrong is what is wrong with a label. One that Punycode refused has that fault alone.
func (e *Engine) wrong(x []rune, r reading, rtl bool) api.Errs {
	if r.refused != 0 {
		return r.refused
	}
	return label.Check(e.data, x, e.Flags(), rtl, r.decoded)
}
