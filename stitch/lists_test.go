package stitch_test

import (
	"slices"
	"testing"

	"stitch/api"
	"stitch/stitch"
)

func TestP2ListsAreNew(t *testing.T) {
	w := full(t)
	for what, call := range map[string]func() ([]string, api.Errno){
		"Lines":          func() ([]string, api.Errno) { return stitch.Lines("x\ny\nz") },
		"Lines of none":  func() ([]string, api.Errno) { return stitch.Lines("") },
		"Lines refused":  func() ([]string, api.Errno) { return stitch.Lines("thirteen rune") },
		"Words":          func() ([]string, api.Errno) { return stitch.Words("record 00ff a b c") },
		"Words, one":     func() ([]string, api.Errno) { return stitch.Words("log") },
		"Words refused":  func() ([]string, api.Errno) { return stitch.Words("") },
		"Files":          func() ([]string, api.Errno) { return w.Files(0) },
		"Files of none":  func() ([]string, api.Errno) { return w.Files(1) },
		"Files, refused": func() ([]string, api.Errno) { return w.Files(2) },
	} {
		first, err := call()
		want := slices.Clone(first)
		second, _ := call()
		spoil(first)
		if !slices.Equal(second, want) {
			t.Errorf("P2: %s: an earlier answer is %q now, was %q", what, second, want)
		}
		spoil(second)
		third, again := call()
		if !slices.Equal(third, want) || again != err {
			t.Errorf("P2: %s: a later answer is %q, %d, was %q, %d", what, third, again, want, err)
		}
	}
}

// spoil writes over a list and over its spare room.
func spoil(list []string) {
	list = list[:cap(list)]
	for i := range list {
		list[i] = "spoilt"
	}
	_ = append(list[:0], "spoilt", "spoilt", "spoilt", "spoilt", "spoilt", "spoilt", "spoilt")
}

// Two lists that are appended to side by side do not get into each other's spare room.
func TestP2SpareRoom(t *testing.T) {
	w := full(t)
	first, _ := w.Files(0)
	second, _ := w.Files(0)
	a, b := append(first, "x"), append(second, "y")
	if a[len(a)-1] != "x" || b[len(b)-1] != "y" {
		t.Errorf("P2: Files: %q and %q", a, b)
	}
	is(t, "P6: Erase", w.Erase(0, "b"), api.OK)
	if !slices.Contains(first, "b") || !slices.Contains(a, "b") {
		t.Errorf("P2: an answer changed with the world: %q, %q", first, a)
	}
	filesAre(t, w, 0, "eighteig", "αααααααα", "αβγω", "ς")
}

func TestP2WorldsAreApart(t *testing.T) {
	one, other := world(t, 2), world(t, 2)
	is(t, "P6: Write", one.Write(0, "a", "x\n"), api.OK)
	filesAre(t, other, 0)
	textRefused(t, other, 0, "a", api.ErrFile)
	is(t, "P6: Write", other.Write(0, "a", "y\n"), api.OK)
	textIs(t, one, 0, "a", "x\n")
	filesAre(t, one, 1)
	filesAre(t, other, 1)
	is(t, "P6: Erase", other.Erase(0, "a"), api.OK)
	textIs(t, one, 0, "a", "x\n")
	for _, name := range []string{"b", "c", "d", "e"} {
		is(t, "P6: Write", one.Write(0, name, ""), api.OK)
	}
	is(t, "P6: Write beside a full world", other.Write(0, "f", ""), api.OK)
}

func TestP2AnswersHangOnArgumentsAlone(t *testing.T) {
	for range 3 {
		linesAre(t, "a\nb", []string{"a\n", "b"})
		linesRefused(t, "thirteen rune")
		wordsAre(t, "pull 1 00ff", []string{"pull", "1", "00ff"})
		wordsRefused(t, "pull 3")
		w := world(t, 1)
		is(t, "P6: Write", w.Write(0, "a", "q\n"), api.OK)
	}
}
