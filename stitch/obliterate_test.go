package stitch_test

import (
	"strings"
	"testing"

	"stitch/api"
	"stitch/stitch"
)

// The patch goes, and of its names the files go with it; other files stay as they are.
func TestP13FilesFollow(t *testing.T) {
	w := recorded(t, "1\n2\n3\n", "0\n0\n1\n2\n3\n", "0\n0\n1\n3\n", "0\n0\n1\n3\n4\n")
	writes(t, w, 0, "b", "mine\n")
	told(t, w, 0, "obliterate 0002", "")
	told(t, w, 0, "log", "0001\n0003\n0004\n")
	told(t, w, 0, "show 0003", "0003\nalter a\n@2\n-2\n")
	told(t, w, 0, "show 0004", "0004\nalter a\n@3\n+4\n")
	keptIs(t, w, 0, "a", "1\n3\n4\n")
	textIs(t, w, 0, "a", "1\n3\n4\n")
	textIs(t, w, 0, "b", "mine\n")
	told(t, w, 0, "new", "add b\n+mine\n")
	told(t, w, 0, "obliterate 0004", "")
	textIs(t, w, 0, "a", "1\n3\n")
	told(t, w, 0, "obliterate 0003", "")
	textIs(t, w, 0, "a", "1\n2\n3\n")
	told(t, w, 0, "obliterate 0001", "")
	filesAre(t, w, 0, "b")
	keptNot(t, w, 0, "a", api.ErrFile)
	told(t, w, 0, "log", "")
	for _, id := range []string{"0001", "0002", "0003", "0004"} {
		refused(t, w, 0, "obliterate "+id, api.ErrId)
		refused(t, w, 0, "record "+id, api.ErrTwice)
	}
}

// A file that the patch removed comes back, and one that it added goes, with or without a line.
func TestP13FilesThatComeAndGo(t *testing.T) {
	for _, text := range []string{"", "1\n2"} {
		w := recorded(t, text, "-", text)
		told(t, w, 0, "obliterate 0003", "")
		filesAre(t, w, 0)
		keptNot(t, w, 0, "a", api.ErrFile)
		told(t, w, 0, "obliterate 0002", "")
		filesAre(t, w, 0, "a")
		textIs(t, w, 0, "a", text)
		keptIs(t, w, 0, "a", text)
		told(t, w, 0, "obliterate 0001", "")
		filesAre(t, w, 0)
		told(t, w, 0, "new", "")
	}
}

// several is a world with a patch 0002 of three names: it adds a, alters b and removes c; d is of another patch.
func several(t *testing.T) *stitch.World {
	t.Helper()
	w := world(t, 1)
	for _, name := range []string{"b", "c", "d"} {
		writes(t, w, 0, name, "1\n2\n")
	}
	does(t, w, 0, "record 0001")
	writes(t, w, 0, "a", "x\n")
	writes(t, w, 0, "b", "1\nx\n2\n")
	erases(t, w, 0, "c")
	does(t, w, 0, "record 0002")
	return w
}

func TestP13SeveralNames(t *testing.T) {
	w := several(t)
	writes(t, w, 0, "d", "mine\n")
	writes(t, w, 0, "e", "mine\n")
	told(t, w, 0, "obliterate 0002", "")
	filesAre(t, w, 0, "b", "c", "d", "e")
	textIs(t, w, 0, "b", "1\n2\n")
	textIs(t, w, 0, "c", "1\n2\n")
	textIs(t, w, 0, "d", "mine\n")
	textIs(t, w, 0, "e", "mine\n")
	told(t, w, 0, "new", "alter d\n@1\n-1\n-2\n+mine\n"+"add e\n+mine\n")
}

// Each set of names that differ: the first of those that the patch changes is told.
func TestP13Dirty(t *testing.T) {
	for set := range 16 {
		w := several(t)
		want := ""
		for i, name := range []string{"d", "c", "b", "a"} {
			if set>>i&1 == 0 {
				continue
			}
			if name == "a" && set&2 == 0 {
				erases(t, w, 0, name)
			} else {
				writes(t, w, 0, name, "mine\n")
			}
			if name != "d" {
				want = name
			}
		}
		if want == "" {
			told(t, w, 0, "obliterate 0002", "")
		} else {
			refusedWith(t, w, 0, "obliterate 0002", api.ErrDirty, want)
			told(t, w, 0, "revert", "")
			told(t, w, 0, "obliterate 0002", "")
		}
	}
}

// What counts is what is kept by all of the patches, not what the patch itself made or what will be kept.
func TestP13DirtyAgainstAllPatches(t *testing.T) {
	w := recorded(t, "1\n2\n", "0\n1\n2\n", "0\n1\n2\n3\n")
	for _, text := range []string{"0\n1\n2\n", "1\n2\n3\n", "1\n2\n", ""} {
		writes(t, w, 0, "a", text)
		refusedWith(t, w, 0, "obliterate 0002", api.ErrDirty, "a")
	}
	erases(t, w, 0, "a")
	refusedWith(t, w, 0, "obliterate 0002", api.ErrDirty, "a")
	writes(t, w, 0, "a", "0\n1\n2\n3\n")
	told(t, w, 0, "obliterate 0002", "")
	textIs(t, w, 0, "a", "1\n2\n3\n")
	// An empty file is not the same as none.
	w = recorded(t, "", "-")
	writes(t, w, 0, "a", "")
	refusedWith(t, w, 0, "obliterate 0002", api.ErrDirty, "a")
}

func TestP13OrderOfErrors(t *testing.T) {
	w := recorded(t, "1\n", "1\n2\n")
	writes(t, w, 0, "a", "mine\n")
	writes(t, w, 1, "a", "other\n")
	refusedWith(t, w, 0, "obliterate 0001", api.ErrNeeded, "0002")
	refusedWith(t, w, 0, "obliterate 0002", api.ErrDirty, "a")
	refused(t, w, 0, "obliterate 0003", api.ErrId)
	refused(t, w, 1, "obliterate 0002", api.ErrId)
	refused(t, w, 2, "obliterate 0002", api.ErrRepo)
	refused(t, w, 0, "obliterate 0002 a", api.ErrCommand)
	told(t, w, 0, "unrecord 0002", "")
	refused(t, w, 0, "obliterate 0002", api.ErrId)
	refusedWith(t, w, 0, "obliterate 0001", api.ErrDirty, "a")
	told(t, w, 0, "revert", "")
	told(t, w, 0, "obliterate 0001", "")
	refused(t, w, 0, "obliterate 0001", api.ErrId)
}

// The files that come back may be more, and longer, than Write takes.
func TestP13AboveTheLimits(t *testing.T) {
	w := world(t, 1)
	for _, name := range strings.Fields("a b c d e") {
		writes(t, w, 0, name, name+"\n")
	}
	does(t, w, 0, "record 0001")
	for _, name := range strings.Fields("a b c d e") {
		erases(t, w, 0, name)
	}
	does(t, w, 0, "record 0002")
	for _, name := range strings.Fields("f g h i j") {
		writes(t, w, 0, name, "")
	}
	told(t, w, 0, "obliterate 0002", "")
	filesAre(t, w, 0, strings.Fields("a b c d e f g h i j")...)
	full := strings.Repeat("x\n", 14)
	w = recorded(t, "1\n"+full+"2\n", "1\n2\n", "1\n2\n"+full)
	told(t, w, 0, "obliterate 0002", "")
	textIs(t, w, 0, "a", "1\n"+full+"2\n"+full)
}
