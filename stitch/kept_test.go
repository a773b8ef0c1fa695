package stitch_test

import (
	"testing"

	"stitch/api"
	"stitch/stitch"
)

// Files that were never recorded come and go like all others.
func TestP7FilesThatWereNeverRecorded(t *testing.T) {
	w := world(t, 2)
	writes(t, w, 0, "a", "x\n")
	told(t, w, 0, "new", "add a\n+x\n")
	erases(t, w, 0, "a")
	told(t, w, 0, "new", "")
	refused(t, w, 0, "record 0001", api.ErrClean)
	refused(t, w, 0, "record 0001 a", api.ErrFile)
	writes(t, w, 0, "a", "x\n")
	writes(t, w, 0, "b", "y\n")
	told(t, w, 0, "record 0001", "add a\n+x\n"+"add b\n+y\n")
	erases(t, w, 0, "b")
	told(t, w, 0, "record 0002", "remove b\n-y\n")
	writes(t, w, 0, "b", "new\n")
	writes(t, w, 0, "c", "")
	told(t, w, 0, "new", "add b\n+new\n"+"add c\n")
	told(t, w, 0, "revert", "")
	filesAre(t, w, 0, "a")
	told(t, w, 0, "new", "")
}

// An empty file is a file: it comes and goes too.
func TestP7EmptyFiles(t *testing.T) {
	w := world(t, 1)
	writes(t, w, 0, "a", "")
	told(t, w, 0, "new", "add a\n")
	told(t, w, 0, "record 0001", "add a\n")
	keptIs(t, w, 0, "a", "")
	told(t, w, 0, "show 0001", "0001\nadd a\n")
	told(t, w, 0, "new", "")
	refused(t, w, 0, "record 0002 a", api.ErrClean)
	erases(t, w, 0, "a")
	told(t, w, 0, "new", "remove a\n")
	keptIs(t, w, 0, "a", "")
	told(t, w, 0, "record 0002 a", "remove a\n")
	keptNot(t, w, 0, "a", api.ErrFile)
	told(t, w, 0, "show 0002", "0002\nremove a\n")
	writes(t, w, 0, "a", "")
	told(t, w, 0, "record 0003", "add a\n")
	writes(t, w, 0, "a", "x")
	told(t, w, 0, "record 0004", "alter a\n@1\n+x$\n")
	writes(t, w, 0, "a", "")
	told(t, w, 0, "record 0005", "alter a\n@1\n-x$\n")
	keptIs(t, w, 0, "a", "")
	writes(t, w, 0, "a", "\n")
	told(t, w, 0, "record 0006", "alter a\n@1\n+\n")
	keptIs(t, w, 0, "a", "\n")
}

func TestP8KeptIsWhatWasRecorded(t *testing.T) {
	w := world(t, 2)
	keptNot(t, w, 0, "a", api.ErrFile)
	writes(t, w, 0, "a", "x\ny")
	keptNot(t, w, 0, "a", api.ErrFile)
	does(t, w, 0, "record 0001")
	for _, text := range []string{"", "z\n", "x\ny\n"} {
		writes(t, w, 0, "a", text)
		keptIs(t, w, 0, "a", "x\ny")
	}
	erases(t, w, 0, "a")
	keptIs(t, w, 0, "a", "x\ny")
	keptNot(t, w, 1, "a", api.ErrFile)
	does(t, w, 0, "record 0002")
	keptNot(t, w, 0, "a", api.ErrFile)
	writes(t, w, 0, "a", "z")
	keptNot(t, w, 0, "a", api.ErrFile)
	does(t, w, 0, "record 0003")
	keptIs(t, w, 0, "a", "z")
	does(t, w, 0, "revert")
	keptIs(t, w, 0, "a", "z")
	keptNot(t, w, 0, "b", api.ErrFile)
}

func TestP8OrderOfErrors(t *testing.T) {
	w := histories(t)
	keptIs(t, w, 0, "a", "x\ny\n")
	keptIs(t, w, 1, "a", "other\n")
	for _, name := range []string{"b", "c", "d", "α", "eighteig"} {
		keptNot(t, w, 0, name, api.ErrFile)
		keptNot(t, w, -1, name, api.ErrRepo)
	}
	for _, name := range badNames() {
		keptNot(t, w, 0, name, api.ErrName)
		keptNot(t, w, 2, name, api.ErrRepo)
	}
	keptNot(t, w, 2, "a", api.ErrRepo)
}

func keptIs(t *testing.T, w *stitch.World, repo int, name, want string) {
	t.Helper()
	if got, err := w.Kept(repo, name); got != want || err != api.OK {
		t.Errorf("P8: Kept(%d, %q) = %q, %d, want %q", repo, name, got, err, want)
	}
}

func keptNot(t *testing.T, w *stitch.World, repo int, name string, want api.Errno) {
	t.Helper()
	if got, err := w.Kept(repo, name); got != "" || err != want {
		t.Errorf("P8: Kept(%d, %q) = %q, %d, want error %d", repo, name, got, err, want)
	}
}
