// Package patch has patches: what they name and bring, what they make of the files, and how they are told.
package patch

import (
	"slices"
	"strings"

	"stitch/diff"
	"stitch/parse"
)

// Patch is some changes of files, in the order of the files' names. It is never changed: repositories may share it.
type Patch struct {
	Id      Id
	changes []namedChange
}

type namedChange struct {
	name string
	change
}

// Tell tells the patch without its id; ahead is what the patches ahead of it make.
func (p Patch) Tell(ahead Tree) string {
	var told strings.Builder
	for _, c := range p.changes {
		told.WriteString(c.tell(c.name, ahead.files[c.name]))
	}
	return told.String()
}

// Names tells the names of the files that the patch changes, in their order.
func (p Patch) Names() []string {
	var names []string
	for _, c := range p.changes {
		names = append(names, c.name)
	}
	return names
}

// Make makes the patch that turns what is kept into these files, each of which differs from it; they come in the order of their names.
func Make(id Id, kept Tree, files []File) Patch {
	m := maker{id: id}
	p := Patch{Id: id}
	for _, f := range files {
		p.changes = append(p.changes, namedChange{f.Name, m.change(kept.files[f.Name], f)})
	}
	return p
}

// maker makes the changes of one patch, and numbers the cells that it brings.
type maker struct {
	id      Id
	brought int
}

func (m *maker) change(kept latest, f File) change {
	if !kept.alive {
		return addition{by: m.id, last: kept.by, row: m.bring(parse.Cut(f.Text))}
	}
	if !f.There {
		return removal{file: kept.by, row: kept.row}
	}
	return alteration{file: kept.by, hunks: m.hunks(kept.row, parse.Cut(f.Text))}
}

func (m *maker) hunks(kept row, lines []string) []hunk {
	framed := kept.framed()
	living := framed.living()
	var hunks []hunk
	for _, gap := range diff.Gaps(kept.lines(), lines) {
		// The beginning is the first that is living: the old line ahead of the gap stands at the gap's own number.
		first, last := living[gap.From], living[gap.To+1]
		named := slices.Clone(framed[first : last+1])
		hunks = append(hunks, hunk{named: named, brings: m.bring(gap.Lines)})
	}
	return hunks
}

func (m *maker) bring(lines []string) row {
	var r row
	for _, line := range lines {
		r = append(r, spot{cell{m.id, m.brought, line}, true})
		m.brought++
	}
	return r
}
