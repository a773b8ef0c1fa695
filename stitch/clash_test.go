package stitch_test

import (
	"slices"
	"strings"
	"testing"

	"stitch/api"
	"stitch/stitch"
)

// Hunks side by side: with a living line between them both repositories take the other's patch, and without one neither does.
func TestP16SideBySide(t *testing.T) {
	for _, c := range []struct{ one, two, both string }{
		{"0\n1\n2\n3\n", "1\n2\n3\n4\n", "0\n1\n2\n3\n4\n"},
		{"1\nx\n2\n3\n", "1\n2\ny\n3\n", "1\nx\n2\ny\n3\n"},
		{"x\n2\n3\n", "1\n2\ny\n", "x\n2\ny\n"},
		{"2\n3\n", "1\n2\n", "2\n"},
		{"x\n1\n2\n3\n", "1\ny\n2\n3\n", "x\n1\ny\n2\n3\n"},
		{"1\n2\n3\nx", "y\n1\n2\n3\n", "y\n1\n2\n3\nx"},
		{"1\nx\n2\n3\n", "1\ny\n2\n3\n", ""},
		{"1\nx\n2\n3\n", "1\nx\n2\n3\n", ""},
		{"1\n3\n", "1\n3\n", ""},
		{"1\n3\n", "1\n2\ny\n3\n", ""},
		{"1\n3\n", "1\ny\n2\n3\n", ""},
		{"1\n3\n", "y\n3\n", ""},
		{"1\n3\n", "2\n3\n", ""},
		{"1\n3\n", "1\n2\n", ""},
		{"1\nx\n3\n", "1\n2\n3", ""},
		{"x\n1\n2\n3\n", "2\n3\n", ""},
		{"x\n1\n2\n3\n", "", ""},
		{"x\n1\n2\n3\n", "y\n1\n2\n3\n", ""},
		{"1\n2\n3\nx\n", "1\n2\n3\ny\n", ""},
		{"1\n2\n3\nx\n", "1\n2\n3", ""},
		{"", "1\n2\n3\n4\n", ""},
		{"", "", ""},
		// One of several hunks is enough.
		{"x\n1\n2\n3\nx\n", "1\n2\n3\ny\n", ""},
		{"x\n1\n2\n3\nx\n", "1\ny\n2\n3\n", "x\n1\ny\n2\n3\nx\n"},
	} {
		w := apart(t, "1\n2\n3\n")
		records(t, w, 0, "0002", "a", c.one)
		records(t, w, 1, "0003", "a", c.two)
		bothOrNeither(t, w, "a", c.both, c.both != "")
	}
}

// bothOrNeither: 0 and 1 take the patches 0003 and 0002 from one another, and this comes of it; or both are refused.
func bothOrNeither(t *testing.T, w *stitch.World, name, both string, fit bool) {
	t.Helper()
	if !fit {
		refusedWith(t, w, 0, "pull 1", api.ErrClash, "0003")
		refusedWith(t, w, 1, "pull 0", api.ErrClash, "0002")
		return
	}
	told(t, w, 0, "pull 1", "0003\n")
	told(t, w, 1, "pull 0", "0002\n")
	for repo := range 2 {
		keptIs(t, w, repo, name, both)
		textIs(t, w, repo, name, both)
	}
}

// All pairs of changes of a short text, held against the rule as it is for lines that are all alive: of two hunks the one must end ahead of a line that the other begins behind.
func TestP16AllPairs(t *testing.T) {
	old := []string{"1\n", "2\n", "3\n"}
	var texts []string
	for set := range 1 << 7 {
		text := ""
		for i := range 7 {
			if i%2 == 0 && set>>i&1 == 1 {
				text += "x\n"
			}
			if i%2 == 1 && set>>i&1 == 0 {
				text += old[i/2]
			}
		}
		if text != strings.Join(old, "") {
			texts = append(texts, text)
		}
	}
	fine := 0
	for i, one := range texts {
		for _, two := range texts[:i+1] {
			w := apart(t, strings.Join(old, ""))
			records(t, w, 0, "0002", "a", one)
			records(t, w, 1, "0003", "a", two)
			hunks := slices.Concat(gapsOf(old, linesOf(one)), gapsOf(old, linesOf(two)))
			slices.SortFunc(hunks, func(g, h gap) int { return g.from - h.from })
			if areApart(hunks) {
				fine++
			}
			bothOrNeither(t, w, "a", replaced(old, hunks), areApart(hunks))
		}
	}
	if fine < 100 {
		t.Errorf("only %d pairs fit", fine)
	}
}

func areApart(hunks []gap) bool {
	for i, h := range hunks[1:] {
		if hunks[i].to >= h.from {
			return false
		}
	}
	return true
}

func replaced(old []string, hunks []gap) string {
	text, at := "", 0
	for _, h := range hunks {
		text += strings.Join(old[at:max(at, h.from)], "") + strings.Join(h.comes, "")
		at = h.to
	}
	return text + strings.Join(old[at:], "")
}

// Dead cells that only one of the two repositories has, or that are alive in the other one.
func TestP16DeadCells(t *testing.T) {
	// A line came and went in 0; nothing of it is seen there, but what comes to the same place does not fit.
	w := apart(t, "x\ny\n")
	records(t, w, 0, "0002", "a", "x\np\ny\n")
	records(t, w, 0, "0003", "a", "x\ny\n")
	records(t, w, 1, "0004", "a", "x\nr\ny\n")
	refusedWith(t, w, 0, "pull 1", api.ErrClash, "0004")
	refusedWith(t, w, 0, "pull 1 0004", api.ErrClash, "0004")
	refusedWith(t, w, 1, "pull 0", api.ErrClash, "0002")
	refusedWith(t, w, 1, "pull 0 0003", api.ErrClash, "0002")
	// Elsewhere in the row it does.
	records(t, w, 2, "0005", "a", "x\ny\nz\n")
	told(t, w, 0, "pull 2", "0005\n")
	told(t, w, 1, "pull 2", "0005\n")
	keptIs(t, w, 0, "a", "x\ny\nz\n")
	// Once both have the dead cell, what comes behind it fits there.
	told(t, w, 2, "pull 0", "0002\n0003\n")
	records(t, w, 0, "0006", "a", "x\nq\ny\nz\n")
	told(t, w, 2, "pull 0", "0006\n")
	keptIs(t, w, 2, "a", "x\nq\ny\nz\n")
	// Taken back, the dead cell is in nobody's way.
	for _, id := range []string{"0006", "0003", "0002"} {
		told(t, w, 0, "obliterate "+id, "")
	}
	told(t, w, 0, "pull 1", "0004\n")
	keptIs(t, w, 0, "a", "x\nr\ny\nz\n")
}

// A cell that is dead in one repository does not fit as a living one, wherever a hunk names it.
func TestP16NamedAliveAndDead(t *testing.T) {
	for _, two := range []string{"1\n2\nx\n3\n", "1\nx\n2\n3\n", "1\n3\n", "3\n", "1\n", "-"} {
		w := apart(t, "1\n2\n3\n")
		records(t, w, 0, "0002", "a", "1\n3\n")
		records(t, w, 1, "0003", "a", two)
		bothOrNeither(t, w, "a", "", false)
	}
	// The other way round: dead in the patch, alive where it comes to. It brings along the one that killed it.
	w := apart(t, "1\n2\n3\n")
	records(t, w, 0, "0002", "a", "1\n3\n")
	records(t, w, 0, "0003", "a", "1\nx\n3\n")
	records(t, w, 1, "0004", "a", "1\n2\n3\n4\n")
	told(t, w, 1, "pull 0 0003", "0002\n0003\n")
	keptIs(t, w, 1, "a", "1\nx\n3\n4\n")
	// Killed by a patch of its own there: the one that killed it here comes along, and clashes.
	records(t, w, 2, "0005", "a", "1\n3\n")
	refusedWith(t, w, 2, "pull 0 0003", api.ErrClash, "0002")
	refusedWith(t, w, 2, "pull 0", api.ErrClash, "0002")
	refusedWith(t, w, 0, "pull 2", api.ErrClash, "0005")
}

// At the edges of the file: dead cells ahead of the first living one and behind the last.
func TestP16DeadCellsAtTheEdges(t *testing.T) {
	for _, c := range []struct{ gone, two, both string }{
		{"2\n3\n", "x\n1\n2\n3\n", ""},
		{"2\n3\n", "1\n2\nx\n3\n", "2\nx\n3\n"},
		{"2\n3\n", "1\n2\n3\nx\n", "2\n3\nx\n"},
		{"1\n2\n", "1\n2\n3\nx\n", ""},
		{"1\n2\n", "x\n1\n2\n3\n", "x\n1\n2\n"},
		{"1\n2\n", "1\nx\n2\n3\n", "1\nx\n2\n"},
	} {
		w := apart(t, "1\n2\n3\n")
		records(t, w, 0, "0002", "a", c.gone)
		records(t, w, 1, "0003", "a", c.two)
		bothOrNeither(t, w, "a", c.both, c.both != "")
	}
	for _, text := range []string{"p\n1\n", "1\np\n"} {
		w := apart(t, "1\n")
		records(t, w, 0, "0002", "a", text)
		records(t, w, 0, "0004", "a", "1\n")
		records(t, w, 1, "0003", "a", strings.Replace(text, "p", "r", 1))
		bothOrNeither(t, w, "a", "", false)
	}
}

// The same name added in both is two files, though the texts be the same.
func TestP16AddedInBoth(t *testing.T) {
	for _, text := range []string{"", "1\n", "2\n"} {
		w := world(t, 2)
		records(t, w, 0, "0002", "a", "1\n")
		records(t, w, 1, "0003", "a", text)
		bothOrNeither(t, w, "a", "", false)
		// Dead, it was there all the same.
		records(t, w, 0, "0004", "a", "-")
		bothOrNeither(t, w, "a", "", false)
		told(t, w, 0, "obliterate 0004", "")
		told(t, w, 0, "obliterate 0002", "")
		told(t, w, 0, "pull 1", "0003\n")
		textIs(t, w, 0, "a", text)
	}
	w := world(t, 2)
	records(t, w, 0, "0002", "a", "1\n")
	records(t, w, 1, "0003", "b", "1\n")
	told(t, w, 0, "pull 1", "0003\n")
	filesAre(t, w, 0, "a", "b")
}

func TestP16RemovedAndAltered(t *testing.T) {
	for _, two := range []string{"1\n2\n3\n4\n", "0\n1\n2\n3\n", "1\n3\n", "", "-"} {
		w := apart(t, "1\n2\n3\n")
		records(t, w, 0, "0002", "a", "-")
		records(t, w, 1, "0003", "a", two)
		bothOrNeither(t, w, "a", "", false)
	}
	// The row counts, not the text: here a line came and went.
	w := apart(t, "1\n")
	records(t, w, 0, "0002", "a", "-")
	records(t, w, 1, "0003", "a", "1\n2\n")
	records(t, w, 1, "0004", "a", "1\n")
	refusedWith(t, w, 0, "pull 1", api.ErrClash, "0003")
	refusedWith(t, w, 1, "pull 0", api.ErrClash, "0002")
	// Another file of the same repository is no matter.
	records(t, w, 2, "0005", "b", "1\n")
	told(t, w, 0, "pull 2", "0005\n")
	told(t, w, 2, "pull 0", "0002\n")
	filesAre(t, w, 2, "b")
}

func TestP16RemovedAndAddedAgain(t *testing.T) {
	w := apart(t, "1\n2\n")
	records(t, w, 0, "0002", "a", "-")
	records(t, w, 0, "0003", "a", "1\n2\n")
	// What alters the first file does not fit the second, though they look the same.
	records(t, w, 1, "0004", "a", "1\n2\n3\n")
	refusedWith(t, w, 0, "pull 1", api.ErrClash, "0004")
	refusedWith(t, w, 1, "pull 0", api.ErrClash, "0002")
	refusedWith(t, w, 1, "pull 0 0003", api.ErrClash, "0002")
	// It was removed and added in 2 as well: both name the same dead file, and still are two.
	records(t, w, 2, "0005", "a", "-")
	refusedWith(t, w, 0, "pull 2", api.ErrClash, "0005")
	refusedWith(t, w, 2, "pull 0 0003", api.ErrClash, "0002")
	told(t, w, 2, "obliterate 0005", "")
	told(t, w, 2, "pull 0 0002", "0002\n")
	filesAre(t, w, 2)
	records(t, w, 2, "0006", "a", "mine\n")
	refusedWith(t, w, 0, "pull 2", api.ErrClash, "0006")
	refusedWith(t, w, 2, "pull 0", api.ErrClash, "0003")
	told(t, w, 2, "obliterate 0006", "")
	told(t, w, 2, "pull 0", "0003\n")
	textIs(t, w, 2, "a", "1\n2\n")
	records(t, w, 2, "0007", "a", "1\nx\n2\n")
	told(t, w, 0, "pull 2", "0007\n")
	textIs(t, w, 0, "a", "1\nx\n2\n")
	// An addition that names no file does not fit where there was one; one that names a file not where there was none.
	w = world(t, 2)
	records(t, w, 0, "0001", "a", "")
	records(t, w, 0, "0002", "a", "-")
	records(t, w, 1, "0003", "a", "")
	refusedWith(t, w, 0, "pull 1", api.ErrClash, "0003")
	refusedWith(t, w, 1, "pull 0", api.ErrClash, "0001")
	records(t, w, 0, "0004", "a", "")
	told(t, w, 1, "obliterate 0003", "")
	told(t, w, 1, "pull 0 0004", "0001\n0002\n0004\n")
	filesAre(t, w, 1, "a")
}

// A hunk that names no cell fits an empty row alone; a file whose cells are all dead is empty only to look at.
func TestP16FilesWithoutALine(t *testing.T) {
	w := apart(t, "")
	filesAre(t, w, 2, "a")
	records(t, w, 0, "0002", "a", "x\n")
	records(t, w, 1, "0003", "a", "y\n")
	bothOrNeither(t, w, "a", "", false)
	records(t, w, 0, "0004", "a", "")
	bothOrNeither(t, w, "a", "", false)
	told(t, w, 2, "pull 0", "0002\n0004\n")
	textIs(t, w, 2, "a", "")
	records(t, w, 2, "0005", "a", "z\n")
	told(t, w, 0, "pull 2", "0005\n")
	textIs(t, w, 0, "a", "z\n")
	refusedWith(t, w, 1, "pull 2", api.ErrClash, "0002")
	told(t, w, 1, "obliterate 0003", "")
	textIs(t, w, 1, "a", "")
	told(t, w, 1, "pull 2", "0002\n0004\n0005\n")
	textIs(t, w, 1, "a", "z\n")
	w = apart(t, "")
	records(t, w, 0, "0002", "a", "-")
	records(t, w, 1, "0003", "a", "y\n")
	bothOrNeither(t, w, "a", "", false)
	records(t, w, 2, "0004", "a", "-")
	refusedWith(t, w, 0, "pull 2", api.ErrClash, "0004")
	told(t, w, 2, "obliterate 0004", "")
	told(t, w, 2, "pull 0", "0002\n")
	filesAre(t, w, 2)
}

// What alters or removes an empty file does not fit another empty file of that name, though there is no cell by which to tell them apart.
func TestP16AnotherFileWithoutALine(t *testing.T) {
	for _, two := range []string{"y\n", "-"} {
		w := apart(t, "")
		records(t, w, 0, "0002", "a", "-")
		records(t, w, 0, "0004", "a", "")
		records(t, w, 1, "0003", "a", two)
		bothOrNeither(t, w, "a", "", false)
		filesAre(t, w, 0, "a")
		textIs(t, w, 0, "a", "")
	}
}

// The id that is told is the first of those that come and do not fit, whatever else comes; none of them comes then.
func TestP16FirstThatClashes(t *testing.T) {
	w := apart(t, "1\n2\n3\n")
	records(t, w, 0, "00f0", "b", "")
	records(t, w, 0, "000f", "a", "1\n2\n3\n4\n")
	records(t, w, 0, "0003", "a", "1\n2\n3\n4\n5\n")
	records(t, w, 0, "0002", "a", "0\n1\n2\n3\n4\n5\n")
	records(t, w, 1, "0004", "a", "x\n1\n2\n3\nx\n")
	refusedWith(t, w, 1, "pull 0", api.ErrClash, "000f")
	refusedWith(t, w, 1, "pull 0 0003", api.ErrClash, "000f")
	refusedWith(t, w, 1, "pull 0 0002", api.ErrClash, "0002")
	told(t, w, 0, "swap 0002", "")
	refusedWith(t, w, 1, "pull 0", api.ErrClash, "000f")
	told(t, w, 0, "swap 0002", "")
	refusedWith(t, w, 1, "pull 0", api.ErrClash, "0002")
	told(t, w, 1, "pull 0 00f0", "00f0\n")
	told(t, w, 1, "log", "0001\n0004\n00f0\n")
	// One name of several is enough.
	w = world(t, 2)
	writes(t, w, 0, "a", "1\n")
	writes(t, w, 0, "b", "1\n")
	writes(t, w, 0, "c", "1\n")
	does(t, w, 0, "record 0002")
	records(t, w, 1, "0003", "b", "1\n")
	bothOrNeither(t, w, "b", "", false)
	filesAre(t, w, 1, "b")
}

// What is not recorded is no matter for a clash: neither a file that is in the way nor one that would make room.
func TestP16ClashIsOfWhatIsKept(t *testing.T) {
	w := world(t, 2)
	records(t, w, 0, "0002", "a", "1\n")
	records(t, w, 1, "0003", "a", "1\n")
	erases(t, w, 0, "a")
	bothOrNeither(t, w, "a", "", false)
	told(t, w, 1, "unrecord 0003", "")
	refusedWith(t, w, 1, "pull 0", api.ErrDirty, "a")
}
