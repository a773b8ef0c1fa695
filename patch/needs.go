package patch

import "slices"

// Needs tells whether p names what the other one brought, or names dead what that killed.
func (p Patch) Needs(other Patch) bool {
	return slices.ContainsFunc(p.changes, func(c namedChange) bool { return c.needs(other) })
}

// Files of different names have no cell in common, so changes of one name alone are held against each other.
func (c namedChange) needs(other Patch) bool {
	for _, d := range other.changes {
		if c.name == d.name && leansOn(c.names(), other.Id, d.kills()) {
			return true
		}
	}
	return false
}

func leansOn(named row, by Id, killed row) bool {
	return slices.ContainsFunc(named, func(s spot) bool { return s.by == by || slices.Contains(killed, s) })
}

// LastWithNeeds tells the last of the patches, and of those ahead of it the ones that it needs, and that these need, and so on, in their order.
func LastWithNeeds(patches []Patch) []Patch {
	var wanted []Patch
	// A patch stands behind all that it needs, so one way back through the list meets them all.
	for i, p := range slices.Backward(patches) {
		needsIt := func(q Patch) bool { return q.Needs(p) }
		if i == len(patches)-1 || slices.ContainsFunc(wanted, needsIt) {
			wanted = append(wanted, p)
		}
	}
	slices.Reverse(wanted)
	return wanted
}
