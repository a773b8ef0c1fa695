package stitch_test

import (
	"fmt"
	"maps"
	"math/rand"
	"slices"
	"strings"
	"testing"

	"stitch/api"
	"stitch/stitch"
)

// What comes is the patch itself, with the cells that it names: of lines with equal texts it kills just the one.
func TestP17EqualLines(t *testing.T) {
	w := apart(t, "x\nx\nx\nx\n")
	records(t, w, 1, "0002", "a", "y\nx\nx\nx\nx\n")
	records(t, w, 1, "0003", "a", "y\nx\nx\nx\nx\nx\n")
	records(t, w, 0, "0004", "a", "x\nx\nx\nz\n")
	records(t, w, 0, "0005", "a", "x\nx\nq\nx\nz\n")
	told(t, w, 0, "show 0004", "0004\nalter a\n@4\n-x\n+z\n")
	refusedWith(t, w, 1, "pull 0", api.ErrClash, "0004")
	told(t, w, 1, "pull 0 0005", "0005\n")
	told(t, w, 1, "show 0005", "0005\nalter a\n@4\n+q\n")
	keptIs(t, w, 1, "a", "y\nx\nx\nq\nx\nx\nx\n")
	told(t, w, 1, "obliterate 0003", "")
	told(t, w, 1, "pull 0", "0004\n")
	told(t, w, 1, "show 0004", "0004\nalter a\n@6\n-x\n+z\n")
	keptIs(t, w, 1, "a", "y\nx\nx\nq\nx\nz\n")
}

// The same text, recorded in two repositories, is two patches with cells of their own.
func TestP17EqualTexts(t *testing.T) {
	w := apart(t, "1\n")
	records(t, w, 0, "0002", "a", "1\n2\n")
	records(t, w, 1, "0003", "a", "1\n2\n")
	records(t, w, 1, "0004", "a", "1\n2\n3\n")
	refusedWith(t, w, 0, "pull 1 0004", api.ErrClash, "0003")
	told(t, w, 0, "obliterate 0002", "")
	told(t, w, 0, "pull 1 0004", "0003\n0004\n")
	keptIs(t, w, 0, "a", "1\n2\n3\n")
}

// Through other repositories, and with others around it, a patch names and needs what it named and needed; only its @n is told otherwise.
func TestP17TheSameEverywhere(t *testing.T) {
	w := apart(t, "1\n2\n3\n4\n")
	records(t, w, 0, "0002", "a", "1\n2\nx\n4\n")
	records(t, w, 1, "0003", "a", "0\n0\n1\n2\n3\n4\n")
	told(t, w, 1, "pull 0", "0002\n")
	records(t, w, 1, "0004", "a", "0\n0\n1\n2\nx\ny\n4\n")
	told(t, w, 2, "pull 1 0004", "0002\n0004\n")
	told(t, w, 0, "obliterate 0002", "")
	told(t, w, 0, "pull 2", "0002\n0004\n")
	told(t, w, 0, "show 0002", "0002\nalter a\n@3\n-3\n+x\n")
	told(t, w, 1, "show 0002", "0002\nalter a\n@5\n-3\n+x\n")
	for repo, at := range []string{"4", "6", "4"} {
		told(t, w, repo, "show 0004", "0004\nalter a\n@"+at+"\n+y\n")
		refusedWith(t, w, repo, "unrecord 0002", api.ErrNeeded, "0004")
		refusedWith(t, w, repo, "swap 0004", api.ErrNeeded, "0002")
	}
	told(t, w, 0, "pull 1", "0003\n")
	told(t, w, 0, "swap 0003", "")
	told(t, w, 0, "swap 0003", "")
	told(t, w, 0, "show 0004", "0004\nalter a\n@6\n+y\n")
	keptIs(t, w, 0, "a", "0\n0\n1\n2\nx\ny\n4\n")
}

// Behind a pull each repository goes on by itself, whatever is done in it.
func TestP16RepositoriesGoOnByThemselves(t *testing.T) {
	for _, repo := range []int{0, 1} {
		for _, taken := range []string{"pull 0", "pull 0 0006"} {
			w := branches(t)
			does(t, w, 1, taken)
			place := string(rune('0'+1-repo)) + " "
			want := seenOf(t, w, place)
			goOn(t, w, repo, func() {
				t.Helper()
				if got := seenOf(t, w, place); !maps.Equal(got, want) {
					t.Errorf("P16: %s: the other repository tells %q, was %q", taken, got, want)
				}
			})
		}
	}
}

// goOn does all that can be done in one repository, and looks behind each step.
func goOn(t *testing.T, w *stitch.World, repo int, look func()) {
	t.Helper()
	step := func(command string) {
		t.Helper()
		does(t, w, repo, command)
		look()
	}
	writes(t, w, repo, "a", "mine\n")
	look()
	step("record 0010")
	step("obliterate 0010")
	writes(t, w, repo, "c", "c\n")
	step("record 0011")
	for range 2 {
		step("swap 0011")
	}
	step("unrecord 0011")
	step("record 0012 c")
	step("obliterate 0006")
	step("unrecord 0005")
	step("revert")
	writes(t, w, repo, "b", "mine\n")
	step("record 0013")
	step("obliterate 0003")
	for range 2 {
		step("pull " + string(rune('0'+repo)))
	}
	erases(t, w, repo, "a")
	step("record 0014 a")
	writes(t, w, repo, "a", "")
	step("record 0015 a")
}

// Two lists that have grown side by side out of one do not get into each other's room, whoever took from whom.
func TestP16ListsAreApart(t *testing.T) {
	w := world(t, 3)
	names := strings.Fields("a b c d e")
	for i, name := range names {
		records(t, w, 0, fmt.Sprintf("000%d", i), name, "")
		told(t, w, 1, "pull 0", fmt.Sprintf("000%d\n", i))
		told(t, w, 2, "pull 1", fmt.Sprintf("000%d\n", i))
	}
	logs := []string{"", "", ""}
	for repo := range 3 {
		records(t, w, repo, fmt.Sprintf("00f%d", repo), "a", fmt.Sprintf("%d\n", repo))
		logs[repo] = listed(fmt.Sprintf("0000 0001 0002 0003 0004 00f%d", repo))
	}
	for repo := range 3 {
		told(t, w, repo, "log", logs[repo])
		keptIs(t, w, repo, "a", fmt.Sprintf("%d\n", repo))
	}
	for range 3 {
		told(t, w, 0, "swap 0004", "")
	}
	told(t, w, 2, "unrecord 0001", "")
	told(t, w, 0, "log", listed("0000 0004 0001 0002 0003 00f0"))
	told(t, w, 1, "log", logs[1])
	told(t, w, 2, "log", listed("0000 0002 0003 0004 00f2"))
}

// A repository that takes another's patches in any order, each with those that it needs, keeps the same in the end.
func TestP18TakenInAnyOrder(t *testing.T) {
	others := 0
	for seed := range 40 {
		m := historyOf(t, seed, 3)
		random := rand.New(rand.NewSource(int64(seed)))
		ids := strings.Fields(m.repos[0].log())
		for repo := 1; repo < 3; repo++ {
			for _, i := range random.Perm(len(ids)) {
				if !m.do(repo, "pull 0 "+ids[i]) {
					t.Fatalf("P18: %s is refused", ids[i])
				}
			}
			sameKept(t, m.w, 0, repo)
			told(t, m.w, repo, "pull 0", "")
			told(t, m.w, 0, "pull "+string(rune('0'+repo)), "")
			if m.repos[repo].log() != m.repos[0].log() {
				others++
			}
		}
		sameKept(t, m.w, 1, 2)
	}
	if others < 20 {
		t.Errorf("only %d lists stand in another order", others)
	}
}

// sameKept: the two repositories have the same patches, and the same is kept of them; and the same order is told.
func sameKept(t *testing.T, w *stitch.World, one, two int) {
	t.Helper()
	about := [2]map[string]string{}
	for i, repo := range []int{one, two} {
		place := string(rune('0'+repo)) + " "
		about[i] = map[string]string{}
		for question, answer := range seenOf(t, w, place) {
			if rest := strings.TrimPrefix(question, place); strings.HasPrefix(rest, "kept ") || rest == "order" {
				about[i][rest] = answer
			}
		}
	}
	if !maps.Equal(about[0], about[1]) {
		t.Errorf("P18: %d has %q, %d has %q", one, about[0], two, about[1])
	}
}

// Of two repositories that have the same patches the same is kept, in whatever order they stand: here each goes on by itself, takes what fits of the other, and moves its patches.
func TestP18SamePatches(t *testing.T) {
	met := 0
	for seed := range 60 {
		m := newMirror(t, 2)
		random := rand.New(rand.NewSource(int64(seed)))
		m.write(0, "a", "1\n2\n3\n4\n5\n6\n7\n8\n9\n")
		m.do(0, "record 0000")
		m.do(1, "pull 0")
		for i := range 5 {
			editLine(m, random, i%2)
			m.do(i%2, fmt.Sprintf("record 00%02x", 0xf0-i))
		}
		for range 30 {
			repo := random.Intn(2)
			m.do(repo, fmt.Sprintf("pull %d ", 1-repo)+randomId(m, random))
			m.do(repo, "swap "+randomId(m, random))
			if slices.Equal(sortedIds(m.repos[0]), sortedIds(m.repos[1])) {
				sameKept(t, m.w, 0, 1)
				met++
			}
		}
	}
	if met < 100 {
		t.Errorf("only %d times had both the same patches", met)
	}
}

// editLine changes a line of the file a: it goes, or another comes for it or behind it.
func editLine(m *mirror, random *rand.Rand, repo int) {
	lines := linesOf(m.repos[repo].files["a"])
	at := random.Intn(len(lines))
	lines[at] = pick(random, "", "x\n", lines[at]+"y\n")
	m.write(repo, "a", strings.Join(lines, ""))
}

func sortedIds(r *modelRepo) []string {
	return slices.Sorted(slices.Values(strings.Fields(r.log())))
}
