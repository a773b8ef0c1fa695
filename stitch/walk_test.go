package stitch_test

import (
	"fmt"
	"maps"
	"math/rand"
	"slices"
	"strings"
	"testing"

	"stitch/api"
)

// Long rows of calls in any order, each answer and all that can be seen held against the model.
func TestP11LongWalks(t *testing.T) {
	for seed := range 40 {
		m := newMirror(t, 2)
		random := rand.New(rand.NewSource(int64(seed)))
		for range 150 {
			repo := random.Intn(2)
			if random.Intn(2) == 0 {
				change(m, random, repo, randomText(random))
			} else {
				m.do(repo, randomRecord(random))
			}
			if random.Intn(24) == 0 {
				m.do(repo, "revert")
			}
		}
	}
}

// The same with patches that move; the texts change by little, so that some patches need one another and some do not.
func TestP14LongWalks(t *testing.T) {
	moved := map[string]int{}
	for seed := range 40 {
		m := newMirror(t, 2)
		random := rand.New(rand.NewSource(int64(seed)))
		for range 100 {
			repo := random.Intn(2)
			if random.Intn(2) == 0 {
				edit(m, random, repo)
				m.do(repo, randomRecord(random))
				continue
			}
			if random.Intn(4) == 0 {
				m.do(repo, "revert")
			}
			word := pick(random, "swap", "swap", "unrecord", "obliterate")
			if m.do(repo, word+" "+randomId(m, random)) {
				moved[word]++
			}
		}
	}
	for _, word := range []string{"swap", "unrecord", "obliterate"} {
		if moved[word] < 50 {
			t.Errorf("the walks have only %d of %s", moved[word], word)
		}
	}
}

// The same with patches that go from one repository to another.
func TestP16LongWalks(t *testing.T) {
	answers := map[api.Errno]int{}
	taken := 0
	for seed := range 60 {
		m := newMirror(t, 3)
		random := rand.New(rand.NewSource(int64(seed)))
		m.write(0, "a", "1\n2\n3\n4\n5\n6\n7\n")
		m.do(0, "record ffff")
		m.do(1, "pull 0")
		m.do(2, "pull 0")
		for range 60 {
			repo := random.Intn(3)
			if random.Intn(4) == 0 {
				edit(m, random, repo)
			}
			if random.Intn(2) == 0 {
				m.do(repo, randomRecord(random))
			}
			if random.Intn(2) == 0 {
				m.do(repo, "revert")
			}
			if random.Intn(3) == 0 {
				m.do(repo, pick(random, "swap", "unrecord", "obliterate")+" "+randomId(m, random))
			}
			command := randomPull(m, random)
			answer, err := m.wanted(m.copied(repo), strings.Fields(command))
			answers[err]++
			if err == api.OK {
				taken += len(answer) / 5
			}
			m.do(repo, command)
		}
	}
	for _, err := range []api.Errno{api.OK, api.ErrId, api.ErrClash, api.ErrDirty} {
		if answers[err] < 50 {
			t.Errorf("the walks have only %d pulls that answer %d", answers[err], err)
		}
	}
	if taken < 200 {
		t.Errorf("only %d patches were taken", taken)
	}
}

// copied is a repository of the model to try a command on.
func (m *mirror) copied(repo int) *modelRepo {
	r := m.repos[repo]
	return &modelRepo{slices.Clone(r.patches), maps.Clone(r.files)}
}

func randomPull(m *mirror, random *rand.Rand) string {
	command := "pull " + pick(random, "0", "1", "2")
	if random.Intn(2) == 0 {
		return command
	}
	return command + " " + randomId(m, random)
}

func history(t *testing.T, seed int) *mirror {
	return historyOf(t, seed, 1)
}

// historyOf is some repositories, of which 0 has some patches that were made by small steps, and files that are not recorded.
func historyOf(t *testing.T, seed, repos int) *mirror {
	m := newMirror(t, repos)
	random := rand.New(rand.NewSource(int64(seed)))
	ids := random.Perm(1 << 16)
	for i := range 8 + random.Intn(8) {
		edit(m, random, 0)
		edit(m, random, 0)
		m.do(0, fmt.Sprintf("record %04x", ids[i]))
	}
	edit(m, random, 0)
	return m
}

func pick(random *rand.Rand, words ...string) string {
	return words[random.Intn(len(words))]
}

func randomName(random *rand.Rand) string {
	return pick(random, "a", "b", "ω")
}

func randomText(random *rand.Rand) string {
	text := ""
	for range random.Intn(7) {
		text += pick(random, "x\n", "y\n", "\n", "zz\n")
	}
	return text + pick(random, "", "", "x", "y")
}

func randomRecord(random *rand.Rand) string {
	words := []string{"record", fmt.Sprintf("%04x", random.Intn(60)*0x1111&0xff0f)}
	for range random.Intn(4) {
		words = append(words, randomName(random))
	}
	return strings.Join(words, " ")
}

// randomId is an id that was given, in whichever repository, or now and then one that was not.
func randomId(m *mirror, random *rand.Rand) string {
	ids := []string{"eeee"}
	for _, r := range m.repos {
		for _, p := range r.patches {
			ids = append(ids, p.id)
		}
	}
	return pick(random, ids...)
}

func change(m *mirror, random *rand.Rand, repo int, text string) {
	if name := randomName(random); random.Intn(4) == 0 {
		m.erase(repo, name)
	} else {
		m.write(repo, name, text)
	}
}

// edit changes a file by a line or two; now and then it takes the file away.
func edit(m *mirror, random *rand.Rand, repo int) {
	name := randomName(random)
	text, there := m.repos[repo].files[name]
	if there && random.Intn(10) == 0 {
		m.erase(repo, name)
		return
	}
	lines := linesOf(text)
	if !there {
		lines = linesOf(randomText(random))
	}
	from := random.Intn(len(lines) + 1)
	to := min(from+random.Intn(2), len(lines))
	comes := []string{}
	for range random.Intn(3) {
		comes = append(comes, pick(random, "x\n", "y\n", "z\n", "\n"))
	}
	lines = slices.Replace(lines, from, to, comes...)
	m.write(repo, name, strings.Join(lines[:min(len(lines), 16)], ""))
}
