package stitch

import (
	"maps"
	"slices"

	"stitch/api"
	"stitch/parse"
	"stitch/patch"
)

// repository is the patches that were recorded, and what the user wrote, by names. What is kept is made of the patches whenever it is asked for.
type repository struct {
	patches []patch.Patch
	files   map[string]file
}

type file struct {
	text string
}

func newRepository() repository {
	return repository{files: map[string]file{}}
}

func (r *repository) write(name, text string) api.Errno {
	if !parse.IsName(name) {
		return api.ErrName
	}
	if _, ok := parse.Lines(text); !ok {
		return api.ErrText
	}
	if _, there := r.files[name]; !there && len(r.files) >= api.MaxFiles {
		return api.ErrFull
	}
	r.files[name] = file{text: text}
	return api.OK
}

func (r *repository) erase(name string) api.Errno {
	if _, err := r.text(name); err != api.OK {
		return err
	}
	delete(r.files, name)
	return api.OK
}

func (r *repository) names() []string {
	return slices.Sorted(maps.Keys(r.files))
}

func (r *repository) text(name string) (string, api.Errno) {
	if !parse.IsName(name) {
		return "", api.ErrName
	}
	f, there := r.files[name]
	if !there {
		return "", api.ErrFile
	}
	return f.text, api.OK
}

// file tells what the user has of a name.
func (r *repository) file(name string) patch.File {
	f, there := r.files[name]
	return patch.File{Name: name, There: there, Text: f.text}
}

func (r *repository) kept() patch.Tree {
	return patch.Grow(r.patches)
}

func (r *repository) keptText(name string) (string, api.Errno) {
	if !parse.IsName(name) {
		return "", api.ErrName
	}
	f := r.kept().File(name)
	if !f.There {
		return "", api.ErrFile
	}
	return f.Text, api.OK
}

// place tells where in the list the patch stands; -1, if it is not in this repository.
func (r *repository) place(id patch.Id) int {
	return slices.IndexFunc(r.patches, func(p patch.Patch) bool { return p.Id == id })
}
