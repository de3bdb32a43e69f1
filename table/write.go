package table

import (
	"slices"
	"strings"

	"endonym/api"
	"endonym/scan"
	"endonym/weigh"
)

// lines writes records that are right.
func lines(l []api.Record) string {
	var b strings.Builder
	for _, r := range l {
		b.WriteString(line(r))
		b.WriteByte('\n')
	}
	return b.String()
}

func line(r api.Record) string {
	s := shapeOf(r.Kind)
	return strings.Join(slices.Concat(s.lead(r), targets(r.To), s.rest(r)), " ")
}

func targets(to []rune) []string {
	l := make([]string, len(to))
	for i, c := range to {
		l[i] = scan.PrintCode(c)
	}
	return l
}

// lead is the words ahead of To's. (The span of one code point is written as that code point.)
func (s shared) lead(r api.Record) []string {
	return []string{s.row().word, scan.PrintSpan(rune(r.Lo), rune(r.Hi))}
}

func (s paired) lead(api.Record) []string { return []string{s.row().word} }

// rest is the words behind To's.
func (s shared) rest(r api.Record) []string {
	k := s.row()
	var l []string
	if k.high > 0 {
		l = append(l, k.print(r.N))
	}
	l = append(l, []string{r.Name, r.Other}[:k.scripts]...)
	if k.weighs {
		l = append(l, weigh.Print(r.Weight))
	}
	return l
}

// print writes N.
func (k row) print(n int) string {
	if k.said != "" {
		return strings.Fields(k.said)[n]
	}
	return scan.PrintWhole(n)
}
