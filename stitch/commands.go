package stitch

import (
	"slices"
	"strings"

	"stitch/api"
	"stitch/patch"
)

func (w *World) carryOut(r *repository, words []string) (string, api.Errno) {
	switch words[0] {
	case "new":
		return r.tellNew(), api.OK
	case "log":
		return tellIds(r.patches), api.OK
	case "order":
		return tellIds(patch.Order(r.patches)), api.OK
	case "show":
		return r.show(patch.IdOf(words[1]))
	case "revert":
		r.revert()
	case "record":
		return w.record(r, patch.IdOf(words[1]), words[2:])
	case "unrecord":
		return r.unrecord(patch.IdOf(words[1]))
	case "obliterate":
		return r.obliterate(patch.IdOf(words[1]))
	case "swap":
		return r.swap(patch.IdOf(words[1]))
	case "pull":
		return w.pull(r, words[1], words[2:])
	}
	return "", api.OK
}

// tellNew tells a patch that is not recorded, so it has no id yet.
func (r *repository) tellNew() string {
	kept := r.kept()
	return patch.Make(patch.Id{}, kept, r.changed(kept, r.allNames(kept))).Tell(kept)
}

func tellIds(patches []patch.Patch) string {
	var told strings.Builder
	for _, p := range patches {
		told.WriteString(p.Id.String() + "\n")
	}
	return told.String()
}

func (r *repository) show(id patch.Id) (string, api.Errno) {
	place := r.place(id)
	if place < 0 {
		return "", api.ErrId
	}
	ahead := patch.Grow(r.patches[:place])
	return id.String() + "\n" + r.patches[place].Tell(ahead), api.OK
}

func (r *repository) revert() {
	r.layKept(r.allNames(r.kept()))
}

// layKept makes the files of these names be what is kept.
func (r *repository) layKept(names []string) {
	kept := r.kept()
	for _, name := range names {
		r.lay(kept.File(name))
	}
}

// lay makes the file of a name be this one. The limits of what the user may write do not hold here.
func (r *repository) lay(f patch.File) {
	if f.There {
		r.files[f.Name] = file{text: f.Text}
	} else {
		delete(r.files, f.Name)
	}
}

func (w *World) record(r *repository, id patch.Id, names []string) (string, api.Errno) {
	kept := r.kept()
	if err := w.mayRecord(r, kept, id, names); err != api.OK {
		return "", err
	}
	if len(names) == 0 {
		names = r.allNames(kept)
	}
	files := r.changed(kept, names)
	if len(files) == 0 {
		return "", api.ErrClean
	}
	p := patch.Make(id, kept, files)
	w.given[id] = struct{}{}
	r.patches = append(r.patches, p)
	return p.Tell(kept), api.OK
}

func (w *World) mayRecord(r *repository, kept patch.Tree, id patch.Id, names []string) api.Errno {
	if _, twice := w.given[id]; twice {
		return api.ErrTwice
	}
	if len(w.given) >= api.MaxPatches {
		return api.ErrFull
	}
	for _, name := range names {
		if !r.file(name).There && !kept.File(name).There {
			return api.ErrFile
		}
	}
	return api.OK
}

// allNames tells the names of which there is a file or something is kept.
func (r *repository) allNames(kept patch.Tree) []string {
	return append(r.names(), kept.Names()...)
}

// changed tells the files of these names that are not the same as what is kept: each once, in the order of the names.
func (r *repository) changed(kept patch.Tree, names []string) []patch.File {
	var files []patch.File
	for _, name := range slices.Compact(slices.Sorted(slices.Values(names))) {
		if f := r.file(name); f != kept.File(name) {
			files = append(files, f)
		}
	}
	return files
}
