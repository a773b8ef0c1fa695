package patch

import "slices"

// Needs tells whether p names what the other one brought, or names dead what that killed.
func (p Patch) Needs(other Patch) bool {
	return slices.ContainsFunc(p.changes, func(c namedChange) bool { return c.needs(other) })
}

// Files of different names have no cell in common, so changes of one name alone are held against each other.
func (c namedChange) needs(other Patch) bool {
	for _, d := range other.changes {
		if c.name == d.name && leansOn(c.names(), other.Id, d.kills()) {
			return true
		}
	}
	return false
}

func leansOn(named row, by Id, killed row) bool {
	return slices.ContainsFunc(named, func(s spot) bool { return s.by == by || slices.Contains(killed, s) })
}
