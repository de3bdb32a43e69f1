package table

import (
	"math"

	"endonym/api"
	"endonym/scalar"
	"endonym/scan"
	"endonym/weigh"
)

// The families: no two records of one family may speak of one thing.
const (
	none = iota // of what is no kind
	status
	class
	decomposition
	direction
	joining
	mark
	script
	looks
	weight
	mix
	families
)

// The words that say a number: the first says 0.
const (
	classWords = "L R AL AN EN ES CS ET ON BN NSM"
	typeWords  = "U R L D C T"
)

// surrogates is where the code points that are no scalar values begin.
const surrogates = 0xD800

// row is a row of the document's table of kinds: a field that it does not name has nothing but noughts here.
type row struct {
	word        string
	family      int
	least, most int    // how many numbers To has
	low, high   int    // between which N lies
	said        string // the words that say N; none: digits do
	scripts     int    // how many scripts are named
	weighs      bool   // whether there is a Weight
}

var rows = [...]row{
	api.KValid:     {word: "valid", family: status},
	api.KIgnored:   {word: "ignored", family: status},
	api.KMapped:    {word: "mapped", family: status, least: 1, most: api.MaxMap},
	api.KShift:     {word: "shift", family: status, least: 1, most: 1, low: 1, high: 64},
	api.KDeviation: {word: "deviation", family: status, most: api.MaxMap},
	api.KClass:     {word: "class", family: class, low: 1, high: 254},
	api.KDecomp:    {word: "decomp", family: decomposition, least: 2, most: 2},
	api.KOpens:     {word: "opens", family: decomposition, least: 1, most: 2},
	api.KBidi:      {word: "bidi", family: direction, high: api.NSM, said: classWords},
	api.KJoin:      {word: "join", family: joining, high: api.JoinT, said: typeWords},
	api.KMark:      {word: "mark", family: mark},
	api.KScript:    {word: "script", family: script, scripts: 1},
	api.KLooks:     {word: "looks", family: looks, least: 1, most: api.MaxMap},
	api.KWeight:    {word: "weight", family: weight, weighs: true},
	api.KMix:       {word: "mix", family: mix, scripts: 2, weighs: true},
}

// shape is what a kind says of its records, and of the words of its lines.
type shape interface {
	family() int
	placed(r api.Record) bool   // whether Lo and Hi are right; so the next ones of other fields:
	targeted(r api.Record) bool // To
	numbered(r api.Record) bool // N
	named(r api.Record) bool    // Name and Other
	weighed(r api.Record) bool  // Weight
	spoken(r api.Record) run
	lead(r api.Record) []string
	rest(r api.Record) []string
	begin(d *draft) []step
	end(d *draft) ([]step, int)
	number(word string) (int, bool)
}

// shapeOf is the shape of a kind; that of what is no kind has no family.
func shapeOf(kind int) shape {
	s := shared{kind}
	switch kind {
	case api.KShift:
		return shifted{spanned{s}}
	case api.KDeviation, api.KDecomp, api.KOpens, api.KLooks:
		return single{s}
	case api.KMix:
		return paired{s}
	}
	return spanned{s}
}

// kindOf is the kind whose lines begin with the word, or 0.
func kindOf(word string) int {
	for kind := range rows {
		if rows[kind].word == word {
			return kind
		}
	}
	return 0
}

// shared is what all kinds have, each by its row.
type shared struct{ kind int }

func (s shared) row() row {
	if s.kind < 0 || s.kind >= len(rows) {
		return row{}
	}
	return rows[s.kind]
}

func (s shared) family() int { return s.row().family }

func (s shared) targeted(r api.Record) bool {
	k := s.row()
	return len(r.To) >= k.least && len(r.To) <= k.most && scalar.Sound(r.To)
}

func (s shared) numbered(r api.Record) bool {
	k := s.row()
	return r.N >= k.low && r.N <= k.high
}

func (s shared) named(r api.Record) bool {
	switch s.row().scripts {
	case 1:
		return scan.Name(r.Name) && r.Other == ""
	case 2:
		return scan.Name(r.Name) && scan.Name(r.Other) && r.Name != r.Other
	}
	return r.Name == "" && r.Other == ""
}

func (s shared) weighed(r api.Record) bool {
	if s.row().weighs {
		return !math.IsNaN(r.Weight) && weigh.Order(r.Weight, 0) >= 0
	}
	return api.Bits(r.Weight) == 0
}

func (s shared) spoken(r api.Record) run { return run{lo: r.Lo, hi: r.Hi, step: 1} }

// spanned is the kinds whose records have a span of code points.
type spanned struct{ shared }

func (spanned) placed(r api.Record) bool { return isPoint(r.Lo) && isPoint(r.Hi) && r.Lo <= r.Hi }

// shifted is the kind whose records map each code point of theirs to another one.
type shifted struct{ spanned }

// placed asks the ends of what is mapped to alone: no surrogate lies between two ends on one side of them.
func (s shifted) placed(r api.Record) bool {
	if !s.spanned.placed(r) || len(r.To) != 1 {
		return false
	}
	first := int(r.To[0])
	last := first + r.Hi - r.Lo
	return isScalar(first) && isScalar(last) && (first < surrogates) == (last < surrogates)
}

func (shifted) spoken(r api.Record) run { return run{lo: r.Lo, hi: r.Hi, step: r.N} }

// single is the kinds whose records have one scalar value.
type single struct{ shared }

func (single) placed(r api.Record) bool { return r.Lo == r.Hi && isScalar(r.Lo) }

// paired is the kind whose records have two scripts, and no code point.
type paired struct{ shared }

func (paired) placed(r api.Record) bool { return r.Lo == 0 && r.Hi == 0 }

func isPoint(n int) bool { return n >= 0 && n <= api.MaxRune }

func isScalar(n int) bool { return isPoint(n) && scalar.Valid(rune(n)) }
