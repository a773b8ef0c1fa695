package stitch_test

import (
	"maps"
	"strings"
	"testing"

	"stitch/api"
	"stitch/stitch"
)

func TestP16FifthExampleOfTheDocument(t *testing.T) {
	w := recorded(t, "x\ny\nz\n", "x\nY\nz\nw")
	told(t, w, 1, "pull 0 0001", "0001\n")
	writes(t, w, 1, "a", "q\nx\ny\nz\n")
	told(t, w, 1, "record 0000", "alter a\n@1\n+q\n")
	told(t, w, 1, "pull 0", "0002\n")
	textIs(t, w, 1, "a", "q\nx\nY\nz\nw")
	told(t, w, 1, "show 0002", "0002\nalter a\n@3\n-y\n+Y\n@5\n+w$\n")
	told(t, w, 1, "swap 0002", "")
	told(t, w, 1, "show 0002", "0002\nalter a\n@2\n-y\n+Y\n@4\n+w$\n")
	told(t, w, 1, "order", "0001\n0000\n0002\n")
}

func TestP16SixthExampleOfTheDocument(t *testing.T) {
	w := recorded(t, "x\ny\n")
	told(t, w, 1, "pull 0", "0001\n")
	records(t, w, 0, "0002", "a", "x\np\ny\n")
	records(t, w, 0, "0003", "a", "x\ny\n")
	records(t, w, 1, "0004", "a", "x\nr\ny\n")
	refusedWith(t, w, 0, "pull 1", api.ErrClash, "0004")
}

// records writes a file, or takes it away if the text is "-", and records it alone.
func records(t *testing.T, w *stitch.World, repo int, id, name, text string) {
	t.Helper()
	if text == "-" {
		erases(t, w, repo, name)
	} else {
		writes(t, w, repo, name, text)
	}
	does(t, w, repo, "record "+id+" "+name)
}

// apart is a world of three in which all have the patch 0001, that adds the file a with this text.
func apart(t *testing.T, text string) *stitch.World {
	t.Helper()
	w := world(t, 3)
	records(t, w, 0, "0001", "a", text)
	told(t, w, 1, "pull 0", "0001\n")
	told(t, w, 2, "pull 1", "0001\n")
	return w
}

// All patches come, in the other's order, and of their names the files are what is kept; the other repository stays as it is.
func TestP16All(t *testing.T) {
	w := world(t, 2)
	records(t, w, 0, "00ff", "a", "1\n2\n")
	records(t, w, 0, "0003", "b", "")
	records(t, w, 0, "0002", "a", "1\nx\n2")
	records(t, w, 0, "0001", "c", "3\n")
	records(t, w, 0, "0000", "c", "-")
	writes(t, w, 0, "a", "not recorded\n")
	writes(t, w, 1, "c", "mine\n")
	writes(t, w, 1, "d", "mine\n")
	other := seenOf(t, w, "0 ")
	refusedWith(t, w, 1, "pull 0", api.ErrDirty, "c")
	erases(t, w, 1, "c")
	told(t, w, 1, "pull 0", "00ff\n0003\n0002\n0001\n0000\n")
	told(t, w, 1, "log", "00ff\n0003\n0002\n0001\n0000\n")
	filesAre(t, w, 1, "a", "b", "d")
	textIs(t, w, 1, "a", "1\nx\n2")
	textIs(t, w, 1, "b", "")
	textIs(t, w, 1, "d", "mine\n")
	keptIs(t, w, 1, "a", "1\nx\n2")
	keptIs(t, w, 1, "b", "")
	keptNot(t, w, 1, "c", api.ErrFile)
	told(t, w, 1, "new", "add d\n+mine\n")
	told(t, w, 1, "show 0002", "0002\nalter a\n@2\n-2\n+x\n+2$\n")
	told(t, w, 1, "show 0000", "0000\nremove c\n-3\n")
	if got := seenOf(t, w, "0 "); !maps.Equal(got, other) {
		t.Errorf("P16: the other repository tells %q, was %q", got, other)
	}
}

// seenOf is all that a world tells of one repository.
func seenOf(t *testing.T, w *stitch.World, place string) map[string]string {
	t.Helper()
	all := seen(t, w)
	maps.DeleteFunc(all, func(question, _ string) bool { return !strings.HasPrefix(question, place) })
	return all
}

// Those that come stand behind those that were there, of which none moves.
func TestP16BehindThoseThatAreThere(t *testing.T) {
	w := apart(t, "1\n2\n3\n")
	records(t, w, 1, "00f0", "b", "b\n")
	records(t, w, 1, "00f1", "a", "0\n1\n2\n3\n")
	records(t, w, 0, "0003", "c", "")
	records(t, w, 0, "0002", "a", "1\n2\n3\n4\n")
	told(t, w, 1, "pull 0", "0003\n0002\n")
	told(t, w, 1, "log", "0001\n00f0\n00f1\n0003\n0002\n")
	keptIs(t, w, 1, "a", "0\n1\n2\n3\n4\n")
	textIs(t, w, 1, "a", "0\n1\n2\n3\n4\n")
	textIs(t, w, 1, "b", "b\n")
	told(t, w, 1, "show 0002", "0002\nalter a\n@5\n+4\n")
	told(t, w, 1, "show 00f1", "00f1\nalter a\n@1\n+0\n")
	told(t, w, 1, "order", "0001\n0002\n0003\n00f0\n00f1\n")
	told(t, w, 1, "new", "")
}

// branches is a world of three; in 0 the patches 0003, 0005 and 0006 stand on one another, and so do 0002 and 0004; all of these stand on 0001, and 0000 on none.
func branches(t *testing.T) *stitch.World {
	t.Helper()
	w := world(t, 3)
	records(t, w, 0, "0001", "a", "1\n2\n3\n")
	records(t, w, 0, "0002", "a", "1\n2\n3\n4\n")
	records(t, w, 0, "0003", "a", "0\n1\n2\n3\n4\n")
	records(t, w, 0, "0000", "b", "b")
	records(t, w, 0, "0004", "a", "0\n1\n2\n3\n4\n5\n")
	records(t, w, 0, "0005", "a", "00\n1\n2\n3\n4\n5\n")
	records(t, w, 0, "0006", "a", "1\n2\n3\n4\n5\n")
	return w
}

// One patch comes with those that it needs, and that these need, however far ahead they stand; and with no others.
func TestP16OneWithNeeds(t *testing.T) {
	for _, c := range []struct{ id, ids, text string }{
		{"0000", "0000", ""},
		{"0001", "0001", "1\n2\n3\n"},
		{"0002", "0001 0002", "1\n2\n3\n4\n"},
		{"0003", "0001 0003", "0\n1\n2\n3\n"},
		{"0004", "0001 0002 0004", "1\n2\n3\n4\n5\n"},
		{"0005", "0001 0003 0005", "00\n1\n2\n3\n"},
		{"0006", "0001 0003 0005 0006", "1\n2\n3\n"},
	} {
		w := branches(t)
		told(t, w, 1, "pull 0 "+c.id, listed(c.ids))
		told(t, w, 1, "log", listed(c.ids))
		if c.text != "" {
			keptIs(t, w, 1, "a", c.text)
			textIs(t, w, 1, "a", c.text)
		}
		told(t, w, 1, "pull 0 "+c.id, "")
		told(t, w, 1, "log", listed(c.ids))
		told(t, w, 1, "new", "")
	}
	// 0007 stands on 0004 alone, and that on 0002.
	w := branches(t)
	records(t, w, 0, "0007", "a", "1\n2\n3\n4\n5\n6\n")
	told(t, w, 1, "pull 0 0007", listed("0001 0002 0004 0007"))
	keptIs(t, w, 1, "a", "1\n2\n3\n4\n5\n6\n")
}

// listed is how ids are told that are written with spaces between them here.
func listed(ids string) string {
	if ids == "" {
		return ""
	}
	return strings.ReplaceAll(ids, " ", "\n") + "\n"
}

// Of those that one patch needs only the ones come that are not there yet.
func TestP16OneWithNeedsThatAreThere(t *testing.T) {
	w := branches(t)
	told(t, w, 1, "pull 0 0003", listed("0001 0003"))
	told(t, w, 1, "pull 0 0006", listed("0005 0006"))
	told(t, w, 1, "pull 0 0004", listed("0002 0004"))
	told(t, w, 1, "pull 0 0002", "")
	told(t, w, 1, "pull 0", "0000\n")
	told(t, w, 1, "log", listed("0001 0003 0005 0006 0002 0004 0000"))
	keptIs(t, w, 1, "a", "1\n2\n3\n4\n5\n")
	told(t, w, 1, "show 0004", "0004\nalter a\n@5\n+5\n")
	told(t, w, 1, "show 0006", "0006\nalter a\n@1\n-00\n")
}

// A removal needs all that made the file what it was, and an addition behind it needs the removal; what is killed alone is needed too.
func TestP16OneWithNeedsOfFiles(t *testing.T) {
	w := recorded(t, "1\n2\n3\n", "1\n3\n", "1\n3\n4\n", "-", "new\n", "new\nest\n")
	records(t, w, 0, "0007", "b", "")
	told(t, w, 1, "pull 0 0006", listed("0001 0002 0003 0004 0005 0006"))
	keptIs(t, w, 1, "a", "new\nest\n")
	w = recorded(t, "1\n2\n3\n", "1\n3\n", "1\nx\n3\n")
	told(t, w, 1, "pull 0 0003", listed("0001 0002 0003"))
	w = recorded(t, "", "-", "")
	told(t, w, 1, "pull 0 0003", listed("0001 0002 0003"))
	filesAre(t, w, 1, "a")
	// One file among several is enough.
	w = world(t, 2)
	records(t, w, 0, "0001", "a", "1\n")
	records(t, w, 0, "0002", "b", "1\n")
	records(t, w, 0, "0003", "c", "1\n")
	writes(t, w, 0, "a", "1\n2\n")
	writes(t, w, 0, "c", "1\n2\n")
	writes(t, w, 0, "d", "")
	does(t, w, 0, "record 0004")
	told(t, w, 1, "pull 0 0004", listed("0001 0003 0004"))
	filesAre(t, w, 1, "a", "c", "d")
}

// The order is that of the other repository, whatever the ids and however the patches came to stand so.
func TestP16FromAnotherOrder(t *testing.T) {
	w := branches(t)
	for _, id := range []string{"0000", "0000", "0000", "0003", "0005"} {
		told(t, w, 0, "swap "+id, "")
	}
	ids := "0000 0001 0003 0002 0005 0004 0006"
	told(t, w, 0, "log", listed(ids))
	told(t, w, 1, "pull 0", listed(ids))
	told(t, w, 1, "log", listed(ids))
	told(t, w, 2, "pull 1 0004", listed("0001 0002 0004"))
	told(t, w, 2, "pull 1 0006", listed("0003 0005 0006"))
	told(t, w, 2, "pull 0", "0000\n")
	told(t, w, 2, "log", listed("0001 0002 0004 0003 0005 0006 0000"))
	// All have the same now; that the orders differ is no reason to take anything.
	for repo := range 3 {
		for _, from := range []string{"0", "1", "2"} {
			told(t, w, repo, "pull "+from, "")
			told(t, w, repo, "pull "+from+" 0006", "")
		}
		keptIs(t, w, repo, "a", "1\n2\n3\n4\n5\n")
		keptIs(t, w, repo, "b", "b")
		told(t, w, repo, "new", "")
	}
	told(t, w, 0, "log", listed(ids))
	told(t, w, 2, "log", listed("0001 0002 0004 0003 0005 0006 0000"))
}

func TestP16ThereAndBack(t *testing.T) {
	w := apart(t, "1\n2\n3\n4\n5\n")
	records(t, w, 0, "0002", "a", "1\n3\n4\n5\n")
	records(t, w, 1, "0003", "a", "1\n2\n3\n4\n5\n6")
	told(t, w, 0, "pull 1", "0003\n")
	told(t, w, 1, "pull 0", "0002\n")
	for repo, log := range []string{"0001 0002 0003", "0001 0003 0002"} {
		told(t, w, repo, "log", listed(log))
		textIs(t, w, repo, "a", "1\n3\n4\n5\n6")
		told(t, w, repo, "new", "")
	}
	told(t, w, 0, "show 0003", "0003\nalter a\n@5\n+6$\n")
	told(t, w, 1, "show 0003", "0003\nalter a\n@6\n+6$\n")
	// What one goes on from, the other has: so it goes on there too.
	records(t, w, 0, "0004", "a", "1\nx\n3\n4\n5\n6\n7\n")
	told(t, w, 1, "pull 0", "0004\n")
	textIs(t, w, 1, "a", "1\nx\n3\n4\n5\n6\n7\n")
	records(t, w, 1, "0005", "a", "1\n3\n4\n5\n6\n7\n")
	told(t, w, 0, "pull 1", "0005\n")
	told(t, w, 2, "pull 0 0005", listed("0002 0003 0004 0005"))
	for repo := range 3 {
		textIs(t, w, repo, "a", "1\n3\n4\n5\n6\n7\n")
	}
}

// A patch that was taken out here comes again from where it still is.
func TestP16OnceMore(t *testing.T) {
	w := recorded(t, "1\n2\n", "1\n2\n3\n")
	told(t, w, 1, "pull 0", "0001\n0002\n")
	told(t, w, 0, "unrecord 0002", "")
	refusedWith(t, w, 0, "pull 1", api.ErrDirty, "a")
	told(t, w, 0, "revert", "")
	told(t, w, 0, "pull 1", "0002\n")
	told(t, w, 0, "obliterate 0002", "")
	told(t, w, 0, "obliterate 0001", "")
	told(t, w, 0, "pull 1 0002", "0001\n0002\n")
	textIs(t, w, 0, "a", "1\n2\n3\n")
	refused(t, w, 0, "record 0002", api.ErrTwice)
	for _, repo := range []int{0, 1} {
		told(t, w, repo, "obliterate 0002", "")
	}
	refused(t, w, 0, "pull 1 0002", api.ErrId)
	told(t, w, 0, "pull 1", "")
}

// Where there is nothing to take, no file is in the way.
func TestP16Nothing(t *testing.T) {
	w := world(t, 2)
	told(t, w, 0, "pull 1", "")
	writes(t, w, 0, "a", "1\n")
	told(t, w, 0, "pull 1", "")
	does(t, w, 0, "record 0001")
	told(t, w, 0, "pull 1", "")
	told(t, w, 1, "pull 0", "0001\n")
	writes(t, w, 0, "a", "mine\n")
	erases(t, w, 1, "a")
	for _, command := range []string{"pull 0", "pull 1", "pull 0 0001", "pull 1 0001"} {
		told(t, w, 0, command, "")
		told(t, w, 1, command, "")
	}
	textIs(t, w, 0, "a", "mine\n")
	filesAre(t, w, 1)
	told(t, w, 0, "log", "0001\n")
	told(t, w, 1, "log", "0001\n")
}

func TestP16FromItself(t *testing.T) {
	w := branches(t)
	writes(t, w, 0, "a", "mine\n")
	erases(t, w, 0, "b")
	want := seen(t, w)
	told(t, w, 0, "pull 0", "")
	for _, id := range strings.Fields(want["0 log"]) {
		told(t, w, 0, "pull 0 "+id, "")
	}
	told(t, w, 1, "pull 1", "")
	refused(t, w, 0, "pull 0 ffff", api.ErrId)
	refused(t, w, 1, "pull 1 0001", api.ErrId)
	if got := seen(t, w); !maps.Equal(got, want) {
		t.Errorf("P16: there is %q, was %q", got, want)
	}
	w = world(t, 1)
	told(t, w, 0, "pull 0", "")
	refused(t, w, 0, "pull 1", api.ErrRepo)
}

// What is kept, and the files, may be longer than Write takes, and go on from there.
func TestP16LongTexts(t *testing.T) {
	w := apart(t, "1\n2\n3\n")
	block := strings.Repeat(fullLine, 13)
	records(t, w, 0, "0002", "a", block+"1\n2\n3\n")
	records(t, w, 1, "0003", "a", "1\n2\n"+block+"3\n")
	records(t, w, 2, "0004", "a", "1\n2\n3\n"+block)
	told(t, w, 0, "pull 1", "0003\n")
	told(t, w, 0, "pull 2", "0004\n")
	long := block + "1\n2\n" + block + "3\n" + block
	textIs(t, w, 0, "a", long)
	keptIs(t, w, 0, "a", long)
	told(t, w, 0, "new", "")
	told(t, w, 0, "show 0004", "0004\nalter a\n@30\n"+linesTold("+", block))
	is(t, "P6: Write of a long text", w.Write(0, "a", long), api.ErrText)
	textIs(t, w, 0, "a", long)
	told(t, w, 1, "pull 0", "0002\n0004\n")
	textIs(t, w, 1, "a", long)
	erases(t, w, 0, "a")
	told(t, w, 0, "record 0005", "remove a\n"+linesTold("-", long))
	told(t, w, 1, "pull 0", "0005\n")
	filesAre(t, w, 1)
	told(t, w, 1, "obliterate 0005", "")
	textIs(t, w, 1, "a", long)
	writes(t, w, 1, "a", "2\n")
	told(t, w, 1, "new", "alter a\n"+alterTold(long, "2\n"))
}

func TestP16ManyFiles(t *testing.T) {
	w := world(t, 3)
	for repo, names := range []string{"a b c d e", "f g h i j", "k l m n o"} {
		for _, name := range strings.Fields(names) {
			writes(t, w, repo, name, name)
		}
		does(t, w, repo, "record 000"+string(rune('0'+repo)))
	}
	told(t, w, 0, "pull 1", "0001\n")
	told(t, w, 0, "pull 2", "0002\n")
	all := strings.Fields("a b c d e f g h i j k l m n o")
	filesAre(t, w, 0, all...)
	for _, name := range all {
		textIs(t, w, 0, name, name)
		keptIs(t, w, 0, name, name)
	}
	is(t, "P6: one more", w.Write(0, "p", ""), api.ErrFull)
	is(t, "P6: one of these", w.Write(0, "o", ""), api.OK)
	told(t, w, 0, "record 0003", "alter o\n@1\n-o$\n")
	// Files that are not recorded are no fewer, and in nobody's way.
	told(t, w, 2, "unrecord 0002", "")
	told(t, w, 2, "pull 0 0000", "0000\n")
	told(t, w, 2, "pull 1", "0001\n")
	filesAre(t, w, 2, all...)
	told(t, w, 2, "new", "add k\n+k$\nadd l\n+l$\nadd m\n+m$\nadd n\n+n$\nadd o\n+o$\n")
}
