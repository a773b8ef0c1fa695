package stitch

import (
	"slices"

	"stitch/api"
	"stitch/patch"
)

func (r *repository) unrecord(id patch.Id) (string, api.Errno) {
	if told, err := r.mayLeave(id); err != api.OK {
		return told, err
	}
	r.drop(id)
	return "", api.OK
}

func (r *repository) obliterate(id patch.Id) (string, api.Errno) {
	if told, err := r.mayLeave(id); err != api.OK {
		return told, err
	}
	names := r.patches[r.place(id)].Names()
	if told, err := r.mayLay(names); err != api.OK {
		return told, err
	}
	r.drop(id)
	r.layKept(names)
	return "", api.OK
}

// mayLeave answers OK, if the patch is here and none of the others needs it; else the error and, if one needs it, the id of the first that does.
func (r *repository) mayLeave(id patch.Id) (string, api.Errno) {
	place := r.place(id)
	if place < 0 {
		return "", api.ErrId
	}
	for _, other := range r.patches {
		if other.Needs(r.patches[place]) {
			return other.Id.String(), api.ErrNeeded
		}
	}
	return "", api.OK
}

// mayLay answers OK, if the files of these names are what is kept, so that nothing of the user's is lost when they are laid anew; else the error and the first name that differs.
func (r *repository) mayLay(names []string) (string, api.Errno) {
	if dirty := r.changed(r.kept(), names); len(dirty) > 0 {
		return dirty[0].Name, api.ErrDirty
	}
	return "", api.OK
}

// drop takes a patch that no other needs out of the list: so those behind it fit without it, and stay as they are.
func (r *repository) drop(id patch.Id) {
	r.patches = slices.DeleteFunc(r.patches, func(p patch.Patch) bool { return p.Id == id })
}

func (r *repository) swap(id patch.Id) (string, api.Errno) {
	place := r.place(id)
	if place < 0 {
		return "", api.ErrId
	}
	if place == 0 {
		return "", api.ErrFirst
	}
	pair := r.patches[place-1 : place+1]
	if pair[1].Needs(pair[0]) {
		return pair[0].Id.String(), api.ErrNeeded
	}
	slices.Reverse(pair)
	return "", api.OK
}
