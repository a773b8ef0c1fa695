package stitch_test

import (
	"maps"
	"slices"
	"testing"
)

// Patches once more, as plainly as the document says them: cells and files are things, and all that is asked of a patch is asked of the things that it names, brings and kills.

// thing is a cell or a file; two are the same only if they are at the same address.
type thing struct{ line string }

type named struct {
	*thing
	alive bool
}

// modelHunk stands between two cells; nil for the one ahead is the file's beginning, nil for the one behind its end.
type modelHunk struct {
	ahead, behind *thing
	between       []named
	comes         []*thing
}

// modelChange is an addition, if it has no old file that is alive; a removal, if it has no new one; else both are the file that it alters.
type modelChange struct {
	old   named
	new   *thing
	row   []named
	hunks []modelHunk
}

type modelPatch struct {
	id      string
	changes map[string]modelChange
}

type modelFile struct {
	named
	row []named
}

func living(row []named) []*thing {
	var things []*thing
	for _, n := range row {
		if n.alive {
			things = append(things, n.thing)
		}
	}
	return things
}

func linesOfThings(things []*thing) []string {
	var lines []string
	for _, th := range things {
		lines = append(lines, th.line)
	}
	return lines
}

func (c modelChange) adds() bool    { return !c.old.alive }
func (c modelChange) removes() bool { return c.new == nil }

func (c modelChange) names() []named {
	all := []named{c.old}
	if c.removes() {
		return append(all, c.row...)
	}
	for _, h := range c.hunks {
		all = append(append(all, named{h.ahead, true}, named{h.behind, true}), h.between...)
	}
	return slices.DeleteFunc(all, func(n named) bool { return n.thing == nil })
}

func (c modelChange) brings() []*thing {
	if c.adds() {
		return append(living(c.row), c.new)
	}
	var all []*thing
	for _, h := range c.hunks {
		all = append(all, h.comes...)
	}
	return all
}

func (c modelChange) kills() []*thing {
	if c.removes() {
		return append(living(c.row), c.old.thing)
	}
	var all []*thing
	for _, h := range c.hunks {
		all = append(all, living(h.between)...)
	}
	return all
}

func (q modelPatch) needs(p modelPatch) bool {
	for _, c := range q.changes {
		for _, n := range c.names() {
			for _, d := range p.changes {
				if slices.Contains(d.brings(), n.thing) || !n.alive && slices.Contains(d.kills(), n.thing) {
					return true
				}
			}
		}
	}
	return false
}

func (c modelChange) fits(f modelFile) bool {
	if f.named != c.old {
		return false
	}
	if c.removes() {
		return slices.Equal(f.row, c.row)
	}
	for _, h := range c.hunks {
		from, to := h.place(f.row)
		if from > to || !slices.Equal(f.row[from:to], h.between) {
			return false
		}
		if h.ahead != nil && !f.row[from-1].alive || h.behind != nil && !f.row[to].alive {
			return false
		}
	}
	return true
}

// place tells where in the row that is which the hunk has between its two cells; from is above to, if these are not there.
func (h modelHunk) place(row []named) (from, to int) {
	at := func(th *thing) int {
		return slices.IndexFunc(row, func(n named) bool { return n.thing == th })
	}
	from, to = 0, len(row)
	if h.ahead != nil {
		from = at(h.ahead) + 1
		if from == 0 {
			return 1, 0
		}
	}
	if h.behind != nil {
		to = at(h.behind)
	}
	return from, to
}

func (c modelChange) apply(f modelFile) modelFile {
	if c.adds() {
		return modelFile{named{c.new, true}, c.row}
	}
	killed := c.kills()
	row := slices.Clone(f.row)
	for i := range row {
		row[i].alive = row[i].alive && !slices.Contains(killed, row[i].thing)
	}
	for _, h := range c.hunks {
		for _, th := range h.comes {
			_, to := h.place(row)
			row = slices.Insert(row, to, named{th, true})
		}
	}
	return modelFile{named{c.old.thing, !c.removes()}, row}
}

func (c modelChange) tell(name string, f modelFile) string {
	switch {
	case c.adds():
		return "add " + name + "\n" + listTold("+", linesOfThings(living(c.row)))
	case c.removes():
		return "remove " + name + "\n" + listTold("-", linesOfThings(living(c.row)))
	}
	told := "alter " + name + "\n"
	for _, h := range c.hunks {
		from, _ := h.place(f.row)
		told += hunkTold(1+len(living(f.row[:from])), linesOfThings(living(h.between)), linesOfThings(h.comes))
	}
	return told
}

// made is what the patches make; each of them must fit what those ahead of it have made.
func made(t *testing.T, patches []modelPatch) map[string]modelFile {
	t.Helper()
	files := map[string]modelFile{}
	for _, p := range patches {
		if !p.fits(files) {
			t.Fatalf("the patch %s does not fit where it stands", p.id)
		}
		p.apply(files)
	}
	return files
}

func (p modelPatch) fits(files map[string]modelFile) bool {
	for name, c := range p.changes {
		if !c.fits(files[name]) {
			return false
		}
	}
	return true
}

func (p modelPatch) apply(files map[string]modelFile) {
	for name, c := range p.changes {
		files[name] = c.apply(files[name])
	}
}

func (p modelPatch) tell(ahead map[string]modelFile) string {
	told := ""
	for _, name := range slices.Sorted(maps.Keys(p.changes)) {
		told += p.changes[name].tell(name, ahead[name])
	}
	return told
}

func thingsOf(lines []string) []*thing {
	var things []*thing
	for _, line := range lines {
		things = append(things, &thing{line})
	}
	return things
}

// changeOf is the change that makes a file of this text of what there is; or none, if there is to be none.
func changeOf(f modelFile, there bool, text string) modelChange {
	switch {
	case !f.alive:
		c := modelChange{old: f.named, new: &thing{}}
		for _, th := range thingsOf(linesOf(text)) {
			c.row = append(c.row, named{th, true})
		}
		return c
	case !there:
		return modelChange{old: f.named, row: f.row}
	}
	c := modelChange{old: f.named, new: f.thing}
	cells := living(f.row)
	for _, g := range gapsOf(linesOfThings(cells), linesOf(text)) {
		h := modelHunk{comes: thingsOf(g.comes)}
		if g.from > 0 {
			h.ahead = cells[g.from-1]
		}
		if g.to < len(cells) {
			h.behind = cells[g.to]
		}
		from, to := h.place(f.row)
		h.between = f.row[from:to]
		c.hunks = append(c.hunks, h)
	}
	return c
}
