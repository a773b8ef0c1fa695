package stitch_test

import (
	"maps"
	"math/rand"
	"slices"
	"strings"
	"testing"

	"stitch/api"
	"stitch/stitch"
)

// model is what a repository must be, held as plain texts.
type model struct {
	kept, files map[string]string
	log         string
	shows       map[string]string
}

// Long rows of calls in any order, each answer and all that can be seen held against the model.
func TestP11LongWalks(t *testing.T) {
	for seed := range 60 {
		walk(t, rand.New(rand.NewSource(int64(seed))))
	}
}

func walk(t *testing.T, random *rand.Rand) {
	w := world(t, 2)
	models := []*model{}
	for range 2 {
		models = append(models, &model{map[string]string{}, map[string]string{}, "", map[string]string{}})
	}
	given := map[string]bool{}
	for range 150 {
		repo := random.Intn(2)
		m := models[repo]
		name := pick(random, "a", "b", "ω")
		switch random.Intn(8) {
		case 0, 1, 2:
			text := randomText(random)
			writes(t, w, repo, name, text)
			m.files[name] = text
		case 3:
			_, there := m.files[name]
			delete(m.files, name)
			is(t, "P6: Erase", w.Erase(repo, name), firstOf(fault{!there, api.ErrFile}))
		case 4:
			if random.Intn(3) == 0 {
				told(t, w, repo, "revert", "")
				m.files = maps.Clone(m.kept)
			}
		default:
			recordBoth(t, w, repo, m, given, random)
		}
		for repo, m := range models {
			sameAs(t, w, repo, m)
		}
	}
}

func pick(random *rand.Rand, words ...string) string {
	return words[random.Intn(len(words))]
}

func randomText(random *rand.Rand) string {
	text := ""
	for range random.Intn(7) {
		text += pick(random, "x\n", "y\n", "\n", "zz\n")
	}
	return text + pick(random, "", "", "x", "y")
}

func recordBoth(t *testing.T, w *stitch.World, repo int, m *model, given map[string]bool, random *rand.Rand) {
	id := "0" + pick(random, "0", "1", "2", "3", "4", "5") + pick(random, "0", "1", "2", "a") + pick(random, "0", "f")
	var names []string
	for range random.Intn(4) {
		names = append(names, pick(random, "a", "b", "ω"))
	}
	command := strings.Join(append([]string{"record", id}, names...), " ")
	missing := func(name string) bool {
		_, old := m.kept[name]
		_, now := m.files[name]
		return !old && !now
	}
	noFile := slices.ContainsFunc(names, missing)
	if len(names) == 0 {
		names = namesOf(m.kept, m.files)
	}
	want := patchTold(m.kept, m.files, names)
	err := firstOf(
		fault{given[id], api.ErrTwice}, fault{len(given) == 40, api.ErrFull}, fault{noFile, api.ErrFile}, fault{want == "", api.ErrClean})
	if err != api.OK {
		refused(t, w, repo, command, err)
		return
	}
	told(t, w, repo, command, want)
	given[id] = true
	m.log += id + "\n"
	m.shows[id] = id + "\n" + want
	for _, name := range names {
		delete(m.kept, name)
		if text, now := m.files[name]; now {
			m.kept[name] = text
		}
	}
}

func sameAs(t *testing.T, w *stitch.World, repo int, m *model) {
	t.Helper()
	filesAre(t, w, repo, slices.Sorted(maps.Keys(m.files))...)
	for _, name := range []string{"a", "b", "ω"} {
		if text, there := m.files[name]; there {
			textIs(t, w, repo, name, text)
		} else {
			textRefused(t, w, repo, name, api.ErrFile)
		}
		if text, there := m.kept[name]; there {
			keptIs(t, w, repo, name, text)
		} else {
			keptNot(t, w, repo, name, api.ErrFile)
		}
	}
	told(t, w, repo, "new", patchTold(m.kept, m.files, namesOf(m.kept, m.files)))
	told(t, w, repo, "log", m.log)
	for id, want := range m.shows {
		told(t, w, repo, "show "+id, want)
	}
}
