package patch

import (
	"maps"
	"slices"
)

// File is what there is of a name: a text, or nothing. Two are the same if they are equal.
type File struct {
	Name  string
	There bool
	Text  string
}

// Tree is what some patches have made.
type Tree struct {
	files map[string]latest
}

// Grow makes what the patches make, in their order.
func Grow(patches []Patch) Tree {
	t := Tree{files: map[string]latest{}}
	for _, p := range patches {
		t.add(p)
	}
	return t
}

// add makes what one more patch makes of it.
func (t Tree) add(p Patch) {
	for _, c := range p.changes {
		t.files[c.name] = c.apply(t.files[c.name])
	}
}

// File tells what is kept of a name.
func (t Tree) File(name string) File {
	f := t.files[name]
	if !f.alive {
		return File{Name: name}
	}
	return File{Name: name, There: true, Text: f.row.text()}
}

// Names tells of which names something is kept, rising.
func (t Tree) Names() []string {
	names := slices.Sorted(maps.Keys(t.files))
	return slices.DeleteFunc(names, func(name string) bool { return !t.files[name].alive })
}
