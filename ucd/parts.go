package ucd

import (
	"endonym/api"
	"endonym/trie"
)

// The parts that tell a value of each number: 0, where no record speaks of it.
type (
	statuses   struct{ *trie.Trie }
	classes    struct{ *trie.Trie }
	directions struct{ *trie.Trie }
	joinings   struct{ *trie.Trie }
	marks      struct{ *trie.Trie }
)

// The parts that tell more of a number than a trie holds.
type (
	mappings   struct{ speakers }
	openings   struct{ speakers }
	scripts    struct{ speakers }
	likenesses struct{ speakers }
	weights    struct{ speakers }
)

// speakers tells of each number the record that speaks of it: its trie tells the record's place. The first record is
// empty, and stands for none.
type speakers struct {
	*trie.Trie
	records []api.Record
}

func (s speakers) of(c rune) api.Record { return s.records[s.Get(int(c))] }

// pair is two numbers, the one ahead first.
type pair struct{ first, second rune }

// compositions is what the records compose; syllables are not among it.
type compositions struct {
	pairs   map[pair]rune
	seconds map[rune]int // of how many pairs a number is the second
}

// names is two scripts' names, the lesser one first.
type names struct{ lesser, greater string }

func eitherOrder(a, b string) names { return names{min(a, b), max(a, b)} }

// mixtures is what scripts cost beside one another, narrowed.
type mixtures struct{ costs map[names]float64 }
