package puny

// state is how far a sequence has grown. The reader and the writer go by the same steps, so that what the one makes of a
// number is what the other wrote it for.
type state struct {
	points int // how many there are so far
	n      int // the code point that was put in last, or the least one that can be
	i      int // the place that the next number counts from
	bias   int
	first  bool // whether the next step is the first one
}

// begun is the state ahead of the first step, with points that no number stands for.
func begun(points int) state {
	return state{points: points, n: firstOther, bias: 72, first: true}
}

// step takes a number, and tells which code point it puts in, and ahead of which place. The code point may be beyond all.
func (s *state) step(delta int) (n, place int) {
	s.points++
	s.n += (s.i + delta) / s.points
	place = (s.i + delta) % s.points
	s.bias = Adapt(delta, s.points, s.first)
	s.first = false
	s.i = place + 1
	return s.n, place
}

// number is the one whose step puts in c ahead of a place.
func (s *state) number(c rune, place int) int {
	return (int(c)-s.n)*(s.points+1) + place - s.i
}
