package stitch

import (
	"maps"
	"slices"

	"stitch/api"
	"stitch/parse"
)

// repository is what the user wrote, by names.
type repository struct {
	files map[string]file
}

type file struct {
	text string
}

func newRepository() repository {
	return repository{files: map[string]file{}}
}

func (r *repository) write(name, text string) api.Errno {
	if !parse.IsName(name) {
		return api.ErrName
	}
	if _, ok := parse.Lines(text); !ok {
		return api.ErrText
	}
	if _, there := r.files[name]; !there && len(r.files) >= api.MaxFiles {
		return api.ErrFull
	}
	r.files[name] = file{text: text}
	return api.OK
}

func (r *repository) erase(name string) api.Errno {
	if _, err := r.text(name); err != api.OK {
		return err
	}
	delete(r.files, name)
	return api.OK
}

func (r *repository) names() []string {
	return slices.Sorted(maps.Keys(r.files))
}

func (r *repository) text(name string) (string, api.Errno) {
	if !parse.IsName(name) {
		return "", api.ErrName
	}
	f, there := r.files[name]
	if !there {
		return "", api.ErrFile
	}
	return f.text, api.OK
}
