package feed

import (
	"slices"

	"endonym/api"
	"endonym/norm"
	"endonym/ucd"
)

// buffer is what is held of a sequence, as it came, till it goes out by what its Data says.
type buffer struct {
	data    *ucd.Data
	numbers []rune
}

// Held is what is held.
func (b *buffer) Held() []rune { return slices.Clone(b.numbers) }

func (b *buffer) copied() buffer { return buffer{b.data, slices.Clone(b.numbers)} }

// hold is whether there is room for one more number, which is held then.
func (b *buffer) hold(c rune) bool {
	if len(b.numbers) == api.MaxHeld {
		return false
	}
	b.numbers = append(b.numbers, c)
	return true
}

// letOut is the NFC of what was held. It is never refused: there is Data, and no more is held than norm takes.
func (b *buffer) letOut() []rune {
	y, _ := norm.NFC(b.data, b.numbers)
	b.numbers = b.numbers[:0]
	return y
}
