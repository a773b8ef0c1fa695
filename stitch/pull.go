package stitch

import (
	"slices"
	"strconv"

	"stitch/api"
	"stitch/patch"
)

// pull takes the id as a list: without one, all patches of the other repository are asked for.
func (w *World) pull(r *repository, from string, ids []string) (string, api.Errno) {
	other, err := strconv.Atoi(from)
	if err != nil || !w.has(other) {
		return "", api.ErrRepo
	}
	offered, errno := w.repos[other].offered(ids)
	if errno != api.OK {
		return "", errno
	}
	return r.take(r.missing(offered))
}

// offered tells the patches that are asked for: all, or the one of this id with those that it needs.
func (r *repository) offered(ids []string) ([]patch.Patch, api.Errno) {
	if len(ids) == 0 {
		return r.patches, api.OK
	}
	place := r.place(patch.IdOf(ids[0]))
	if place < 0 {
		return nil, api.ErrId
	}
	return patch.LastWithNeeds(r.patches[:place+1]), api.OK
}

// missing is a new list of those patches that are not here: what is offered may be the other repository's own list, which changes by itself.
func (r *repository) missing(offered []patch.Patch) []patch.Patch {
	here := func(p patch.Patch) bool { return r.place(p.Id) >= 0 }
	return slices.DeleteFunc(slices.Clone(offered), here)
}

func (r *repository) take(coming []patch.Patch) (string, api.Errno) {
	if p, clash := patch.Clash(r.patches, coming); clash {
		return p.Id.String(), api.ErrClash
	}
	var names []string
	for _, p := range coming {
		names = append(names, p.Names()...)
	}
	if told, err := r.mayLay(names); err != api.OK {
		return told, err
	}
	r.patches = append(r.patches, coming...)
	r.layKept(names)
	return tellIds(coming), api.OK
}
