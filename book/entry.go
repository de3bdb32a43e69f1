package book

import (
	"cmp"
	"slices"

	"endonym/api"
	"endonym/looks"
	"endonym/name"
	"endonym/scalar"
)

// entry is one as the book keeps it.
type entry struct {
	api.Entry
	look string // the skeleton of its shown form: entries look alike just if theirs are the same
}

// read is the entry that a text would be, with no owner yet. What is carried is shown without errors (W1); a skeleton is
// sound, as all that a table says of looks is.
func (b *Book) read(s string) (*entry, api.Errno) {
	carried, wrong := b.ToASCII(s)
	if wrong != 0 || carried == "" {
		return nil, api.ErrName
	}
	shown, _ := b.ToUnicode(carried)
	points, _, _ := scalar.Decode(shown)
	skeleton, e := looks.Skeleton(b.data, points)
	if e != api.OK {
		return nil, api.ErrName
	}
	look, _, _ := scalar.Encode(skeleton)
	return &entry{api.Entry{Name: carried, Shown: shown}, look}, api.OK
}

// find is the entry that the book has of a text's name.
func (b *Book) find(s string) (*entry, api.Errno) {
	x, e := b.read(s)
	if e != api.OK {
		return nil, e
	}
	if x = b.names[x.Name]; x == nil {
		return nil, api.ErrNone
	}
	return x, api.OK
}

// owned is the entry that the book has of a text's name, if it is the owner's.
func (b *Book) owned(owner int, s string) (*entry, api.Errno) {
	x, e := b.find(s)
	if e != api.OK {
		return nil, e
	}
	if x.Owner != owner {
		return nil, api.ErrTaken
	}
	return x, api.OK
}

// clashes is whether an entry other than x, of an owner other than that, looks like x.
func (b *Book) clashes(x *entry, owner int) bool {
	return slices.ContainsFunc(b.alike[x.look], func(y *entry) bool { return y != x && y.Owner != owner })
}

// keep puts an entry into both maps.
func (b *Book) keep(x *entry) {
	b.names[x.Name] = x
	b.alike[x.look] = append(b.alike[x.look], x)
}

// lose takes an entry out of both maps.
func (b *Book) lose(x *entry) {
	delete(b.names, x.Name)
	rest := slices.DeleteFunc(b.alike[x.look], func(y *entry) bool { return y == x })
	b.alike[x.look] = rest
	if len(rest) == 0 {
		delete(b.alike, x.look)
	}
}

// listed is what the book tells of entries, in order. Names that are alike but for A to Z are told apart by their bytes.
func listed(l []*entry) []api.Entry {
	told := make([]api.Entry, len(l))
	for i, x := range l {
		told[i] = x.Entry
	}
	slices.SortFunc(told, func(x, y api.Entry) int {
		return cmp.Or(name.Compare(x.Name, y.Name), cmp.Compare(x.Name, y.Name))
	})
	return told
}
