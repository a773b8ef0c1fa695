package patch

import "slices"

// Fits tells whether each change of the patch finds in what is kept all that it names, as it names it.
func (p Patch) Fits(kept Tree) bool {
	return !slices.ContainsFunc(p.changes, func(c namedChange) bool { return !c.fits(kept.files[c.name]) })
}

// Clash tells the first of the coming patches that does not fit behind these and the coming ones ahead of it; false, if all of them fit.
func Clash(patches, coming []Patch) (Patch, bool) {
	kept := Grow(patches)
	for _, p := range coming {
		if !p.Fits(kept) {
			return p, true
		}
		kept.add(p)
	}
	return Patch{}, false
}

func (a addition) fits(ahead latest) bool {
	return !ahead.alive && ahead.by == a.last
}

func (r removal) fits(ahead latest) bool {
	return ahead.alive && ahead.by == r.file && slices.Equal(ahead.row, r.row)
}

func (a alteration) fits(ahead latest) bool {
	framed := ahead.row.framed()
	stray := func(h hunk) bool { return !h.fits(framed) }
	return ahead.alive && ahead.by == a.file && !slices.ContainsFunc(a.hunks, stray)
}

// fits takes the row as it is ahead of the whole patch. The beginning and the end are cells there, so what a hunk names at an edge is found there alone.
func (h hunk) fits(framed row) bool {
	first := h.place(framed)
	return first >= 0 && slices.Equal(framed[first:min(first+len(h.named), len(framed))], h.named)
}
