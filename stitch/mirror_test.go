package stitch_test

import (
	"maps"
	"slices"
	"strings"
	"testing"

	"stitch/api"
	"stitch/stitch"
)

// mirror is a world and, beside it, what it must be: each call is made on both, and the answers are held against each other.
type mirror struct {
	t     *testing.T
	w     *stitch.World
	repos []*modelRepo
	given map[string]bool
}

type modelRepo struct {
	patches []modelPatch
	files   map[string]string
}

func newMirror(t *testing.T, n int) *mirror {
	m := &mirror{t: t, w: world(t, n), given: map[string]bool{}}
	for range n {
		m.repos = append(m.repos, &modelRepo{files: map[string]string{}})
	}
	return m
}

func (m *mirror) write(repo int, name, text string) {
	m.t.Helper()
	writes(m.t, m.w, repo, name, text)
	m.repos[repo].files[name] = text
}

func (m *mirror) erase(repo int, name string) {
	m.t.Helper()
	_, there := m.repos[repo].files[name]
	is(m.t, "P6: Erase", m.w.Erase(repo, name), firstOf(fault{!there, api.ErrFile}))
	delete(m.repos[repo].files, name)
}

// do tells whether the command was carried out.
func (m *mirror) do(repo int, command string) bool {
	m.t.Helper()
	text, err := m.wanted(m.repos[repo], strings.Fields(command))
	if err != api.OK {
		refusedWith(m.t, m.w, repo, command, err, text)
		return false
	}
	told(m.t, m.w, repo, command, text)
	m.check()
	return true
}

func (m *mirror) wanted(r *modelRepo, words []string) (string, api.Errno) {
	switch words[0] {
	case "record":
		return m.record(r, words[1], words[2:])
	case "unrecord":
		return r.unrecord(words[1])
	case "obliterate":
		return m.obliterate(r, words[1])
	case "swap":
		return r.swap(words[1])
	case "pull":
		return m.pull(r, words[1], words[2:])
	case "revert":
		r.files = m.kept(r)
		return "", api.OK
	}
	m.t.Fatalf("the model has no %q", words)
	return "", api.OK
}

func (m *mirror) kept(r *modelRepo) map[string]string {
	m.t.Helper()
	texts := map[string]string{}
	for name, f := range made(m.t, r.patches) {
		if f.alive {
			texts[name] = strings.Join(linesOfThings(living(f.row)), "")
		}
	}
	return texts
}

// differ tells of which names the files are not what is kept.
func (m *mirror) differ(r *modelRepo, names []string) []string {
	kept := m.kept(r)
	return slices.DeleteFunc(slices.Compact(slices.Sorted(slices.Values(names))), func(name string) bool {
		before, old := kept[name]
		behind, now := r.files[name]
		return old == now && before == behind
	})
}

func (m *mirror) record(r *modelRepo, id string, names []string) (string, api.Errno) {
	kept := m.kept(r)
	missing := func(name string) bool { return !slices.Contains(namesOf(kept, r.files), name) }
	noFile := slices.ContainsFunc(names, missing)
	if len(names) == 0 {
		names = namesOf(kept, r.files)
	}
	changed := m.differ(r, names)
	err := firstOf(
		fault{m.given[id], api.ErrTwice}, fault{len(m.given) == 40, api.ErrFull}, fault{noFile, api.ErrFile}, fault{len(changed) == 0, api.ErrClean})
	if err != api.OK {
		return "", err
	}
	files := made(m.t, r.patches)
	p := modelPatch{id, map[string]modelChange{}}
	for _, name := range changed {
		text, there := r.files[name]
		p.changes[name] = changeOf(files[name], there, text)
	}
	m.given[id] = true
	r.patches = append(r.patches, p)
	return patchTold(kept, r.files, names), api.OK
}

func (r *modelRepo) place(id string) int {
	return slices.IndexFunc(r.patches, func(p modelPatch) bool { return p.id == id })
}

// needing is the id of the first patch that needs this one.
func (r *modelRepo) needing(p modelPatch) string {
	for _, q := range r.patches {
		if q.needs(p) {
			return q.id
		}
	}
	return ""
}

func (r *modelRepo) unrecord(id string) (string, api.Errno) {
	place := r.place(id)
	if place < 0 {
		return "", api.ErrId
	}
	if needing := r.needing(r.patches[place]); needing != "" {
		return needing, api.ErrNeeded
	}
	r.patches = slices.Delete(r.patches, place, place+1)
	return "", api.OK
}

func (m *mirror) obliterate(r *modelRepo, id string) (string, api.Errno) {
	place := r.place(id)
	if place < 0 {
		return "", api.ErrId
	}
	p := r.patches[place]
	if needing := r.needing(p); needing != "" {
		return needing, api.ErrNeeded
	}
	if dirty := m.differ(r, p.names()); len(dirty) > 0 {
		return dirty[0], api.ErrDirty
	}
	r.patches = slices.Delete(r.patches, place, place+1)
	m.lay(r, p.names())
	return "", api.OK
}

func (p modelPatch) names() []string {
	return slices.Collect(maps.Keys(p.changes))
}

// lay makes the files of these names be what is kept.
func (m *mirror) lay(r *modelRepo, names []string) {
	kept := m.kept(r)
	for _, name := range names {
		delete(r.files, name)
		if text, old := kept[name]; old {
			r.files[name] = text
		}
	}
}

func (m *mirror) pull(r *modelRepo, from string, ids []string) (string, api.Errno) {
	other := int(from[0] - '0')
	if other >= len(m.repos) {
		return "", api.ErrRepo
	}
	wanted := m.repos[other].patches
	if len(ids) > 0 {
		if m.repos[other].place(ids[0]) < 0 {
			return "", api.ErrId
		}
		wanted = m.repos[other].withNeeds(ids[0])
	}
	files := made(m.t, r.patches)
	var names []string
	coming := &modelRepo{}
	for _, p := range wanted {
		if r.place(p.id) >= 0 {
			continue
		}
		if !p.fits(files) {
			return p.id, api.ErrClash
		}
		p.apply(files)
		names = append(names, p.names()...)
		coming.patches = append(coming.patches, p)
	}
	if dirty := m.differ(r, names); len(dirty) > 0 {
		return dirty[0], api.ErrDirty
	}
	r.patches = append(r.patches, coming.patches...)
	m.lay(r, names)
	return coming.log(), api.OK
}

// withNeeds asks all patches again and again for one more that is needed, until there is none.
func (r *modelRepo) withNeeds(id string) []modelPatch {
	ids := []string{id}
	for before := 0; before < len(ids); {
		before = len(ids)
		for _, p := range r.patches {
			for _, q := range r.patches {
				if slices.Contains(ids, q.id) && q.needs(p) && !slices.Contains(ids, p.id) {
					ids = append(ids, p.id)
				}
			}
		}
	}
	return slices.DeleteFunc(slices.Clone(r.patches), func(p modelPatch) bool { return !slices.Contains(ids, p.id) })
}

func (r *modelRepo) swap(id string) (string, api.Errno) {
	place := r.place(id)
	if place < 0 {
		return "", api.ErrId
	}
	if place == 0 {
		return "", api.ErrFirst
	}
	if ahead := r.patches[place-1]; r.patches[place].needs(ahead) {
		return ahead.id, api.ErrNeeded
	}
	r.patches[place-1], r.patches[place] = r.patches[place], r.patches[place-1]
	return "", api.OK
}

func (r *modelRepo) order() string {
	left := slices.Clone(r.patches)
	slices.SortFunc(left, func(p, q modelPatch) int { return strings.Compare(p.id, q.id) })
	told := ""
	for len(left) > 0 {
		next := slices.IndexFunc(left, func(q modelPatch) bool { return !slices.ContainsFunc(left, q.needs) })
		told += left[next].id + "\n"
		left = slices.Delete(left, next, next+1)
	}
	return told
}

func (r *modelRepo) log() string {
	told := ""
	for _, p := range r.patches {
		told += p.id + "\n"
	}
	return told
}

// check holds all that the world tells against what it must be.
func (m *mirror) check() {
	m.t.Helper()
	want := map[string]string{}
	for repo, r := range m.repos {
		place := string(rune('0'+repo)) + " "
		for name, text := range r.files {
			want[place+"file "+name] = text
		}
		kept := m.kept(r)
		for name, text := range kept {
			want[place+"kept "+name] = text
		}
		want[place+"new"] = patchTold(kept, r.files, namesOf(kept, r.files))
		want[place+"log"] = r.log()
		want[place+"order"] = r.order()
		for i, p := range r.patches {
			want[place+p.id] = p.id + "\n" + p.tell(made(m.t, r.patches[:i]))
		}
	}
	if got := seen(m.t, m.w); !maps.Equal(got, want) {
		m.t.Fatalf("the world tells %q, want %q", got, want)
	}
}
