package pack

import (
	"endonym/api"
	"endonym/wire"
)

// maxName is the most bytes that are read as a script's name.
const maxName = 4

// field is one part of what a kind has behind it: closures over a record, which write that part of it and read it.
type field struct {
	write func() []byte
	read  func(b []byte, at int) (int, api.Errno) // the place behind it, or that of a fault
}

// fields is what the record's kind has behind it, in its order. Both ways go by it, so that they can't part.
func fields(r *api.Record) []field {
	switch r.Kind {
	case api.KValid, api.KIgnored, api.KMark:
		return span(r)
	case api.KMapped:
		return append(span(r), list(r))
	case api.KShift:
		return append(span(r), plain(r), target(r))
	case api.KDeviation, api.KDecomp, api.KOpens, api.KLooks:
		return []field{alone(r), list(r)}
	case api.KClass, api.KBidi, api.KJoin:
		return append(span(r), plain(r))
	case api.KScript:
		return append(span(r), name(r))
	case api.KWeight:
		return append(span(r), weight(r))
	case api.KMix:
		return []field{name(r), other(r), weight(r)}
	}
	return nil
}

// span is Lo, and how far Hi is from it.
func span(r *api.Record) []field {
	lo := number(func() int { return r.Lo }, func(n int) { r.Lo = n })
	reach := number(func() int { return r.Hi - r.Lo }, func(n int) { r.Hi = r.Lo + n })
	return []field{lo, reach}
}

// alone is a Lo that is Hi too.
func alone(r *api.Record) field {
	return number(func() int { return r.Lo }, func(n int) { r.Lo, r.Hi = n, n })
}

// plain is N.
func plain(r *api.Record) field {
	return number(func() int { return r.N }, func(n int) { r.N = n })
}

// target is the one number of a shift's To.
func target(r *api.Record) field {
	return number(func() int { return int(r.To[0]) }, func(n int) { r.To = []rune{rune(n)} })
}

func name(r *api.Record) field {
	return text(func() string { return r.Name }, func(s string) { r.Name = s })
}

func other(r *api.Record) field {
	return text(func() string { return r.Other }, func(s string) { r.Other = s })
}

func number(tell func() int, take func(n int)) field {
	return field{
		write: func() []byte { return wire.Uint(tell()) },
		read: func(b []byte, at int) (int, api.Errno) {
			n, next, e := readUpTo(b, at, api.MaxRune)
			if e == api.OK {
				take(n)
			}
			return next, e
		},
	}
}

func text(tell func() string, take func(s string)) field {
	return field{
		write: func() []byte { return wire.Text(tell()) },
		read: func(b []byte, at int) (int, api.Errno) {
			s, next, e := wire.ReadText(b, at, maxName)
			if e != api.OK {
				return at, e
			}
			take(s)
			return next, api.OK
		},
	}
}

// list is To, how many numbers ahead.
func list(r *api.Record) field {
	return field{
		write: func() []byte {
			b := wire.Uint(len(r.To))
			for _, c := range r.To {
				b = append(b, wire.Uint(int(c))...)
			}
			return b
		},
		read: func(b []byte, at int) (int, api.Errno) {
			size, at, e := readUpTo(b, at, api.MaxMap)
			if e != api.OK {
				return at, e
			}
			for range size {
				c, next, e := readUpTo(b, at, api.MaxRune)
				if e != api.OK {
					return next, e
				}
				r.To = append(r.To, rune(c))
				at = next
			}
			return at, api.OK
		},
	}
}

func weight(r *api.Record) field {
	return field{
		write: func() []byte { return wire.Float(r.Weight) },
		read: func(b []byte, at int) (int, api.Errno) {
			w, next, e := wire.ReadFloat(b, at)
			if e != api.OK {
				return at, e
			}
			r.Weight = w
			return next, api.OK
		},
	}
}

// readUpTo tells a number of at most so much, and the place behind it, or that of a fault.
func readUpTo(b []byte, at, most int) (n, next int, e api.Errno) {
	n, next, e = readUint(b, at)
	if e == api.OK && n > most {
		return 0, at, api.ErrField
	}
	return n, next, e
}

// readUint tells a number and the place behind it, or that of a fault: wire tells no place beside an error.
func readUint(b []byte, at int) (n, next int, e api.Errno) {
	n, next, e = wire.ReadUint(b, at)
	if e != api.OK {
		return 0, at, e
	}
	return n, next, api.OK
}
