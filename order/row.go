package order

import "endonym/ucd"

// classes is how many there are, 0 among them.
const classes = 255

// mark is a number whose class is not 0.
type mark struct {
	number rune
	class  int
}

// row is a buffer in which neighbours that are marks are gathered. One buffer serves all rows of a sequence.
type row struct {
	marks  []mark
	counts [classes]int // how many marks of each class
}

// putInOrder puts each row of marks in its order, where it stands: y is no list of a caller.
func putInOrder(d *ucd.Data, y []rune) {
	var r row
	for i := range len(y) {
		if class := d.Class(y[i]); class != 0 {
			r.gather(mark{y[i], class})
			continue
		}
		r.lay(y[:i])
	}
	r.lay(y)
}

func (r *row) gather(m mark) {
	r.marks = append(r.marks, m)
	r.counts[m.class]++
}

// lay puts the marks back at the end of y, from where they came, and leaves the row empty.
func (r *row) lay(y []rune) {
	if len(r.marks) == 0 {
		return
	}
	r.deal(y[len(y)-len(r.marks):])
	clear(r.counts[:])
	clear(r.marks)
	r.marks = r.marks[:0]
}

// deal goes by places and holds no two marks against each other: so those of one class stay as they stood, and each of
// the millions that a sequence may open to takes as many steps as one of a short row.
func (r *row) deal(y []rune) {
	places := r.places()
	for _, m := range r.marks {
		y[places[m.class]] = m.number
		places[m.class]++
	}
}

// places is where the marks of each class begin: behind all those of the classes below.
func (r *row) places() [classes]int {
	var begin [classes]int
	next := 0
	for class := range classes {
		begin[class] = next
		next += r.counts[class]
	}
	return begin
}
