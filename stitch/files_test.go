package stitch_test

import (
	"slices"
	"strings"
	"testing"

	"stitch/api"
	"stitch/stitch"
)

func badNames() []string {
	return []string{
		"", " ", "A", "Z", "`", "{", "0", "a1", "1a", "a b", "a ", " a", "a\n", "\n", "a\x00", "aB", "é", "ß",
		"ninelette", "ωωωωωωωωω", "ά", "\u03b0", "\u03ca", "Ω", "я", "\xce", "\xb1", "a\xff", "\xff", "\ufffd", "α\xce", "../a",
	}
}

func TestP6Names(t *testing.T) {
	for _, name := range []string{"a", "z", "α", "ω", "ς", "eighteig", "ωωωωωωωω", "aαzω", "log"} {
		w := world(t, 1)
		is(t, "P6: Write of "+name, w.Write(0, name, "x\n"), api.OK)
		textIs(t, w, 0, name, "x\n")
		filesAre(t, w, 0, name)
		is(t, "P6: Erase of "+name, w.Erase(0, name), api.OK)
		textRefused(t, w, 0, name, api.ErrFile)
		filesAre(t, w, 0)
	}
	w := world(t, 1)
	for _, name := range badNames() {
		is(t, "P6: Write of "+name, w.Write(0, name, "x\n"), api.ErrName)
		is(t, "P6: Erase of "+name, w.Erase(0, name), api.ErrName)
		textRefused(t, w, 0, name, api.ErrName)
	}
	filesAre(t, w, 0)
}

func TestP6Texts(t *testing.T) {
	w := world(t, 1)
	for _, text := range []string{
		"", "x", "\n", "x\ny\n", "x\ny", "a\r\n", "\xff\xce\n\x00", "\xed\xa0\x80", "\ufffd", "ωωωωωωωωωωωω\n",
		strings.Repeat(fullLine, 16), strings.Repeat("\n", 16), strings.Repeat("\n", 15) + "x",
	} {
		is(t, "P6: Write", w.Write(0, "a", text), api.OK)
		textIs(t, w, 0, "a", text)
		filesAre(t, w, 0, "a")
	}
	is(t, "P6: Write", w.Write(0, "a", "old\n"), api.OK)
	for _, text := range []string{
		"thirteen rune", "thirteen rune\n", strings.Repeat("ω", 13), strings.Repeat("\xff", 13), strings.Repeat("\n", 17),
		strings.Repeat("\n", 16) + "x", strings.Replace(strings.Repeat(fullLine, 16), "a", "ω", 1),
	} {
		is(t, "P6: Write", w.Write(0, "a", text), api.ErrText)
		is(t, "P6: Write", w.Write(0, "b", text), api.ErrText)
		textIs(t, w, 0, "a", "old\n")
		filesAre(t, w, 0, "a")
	}
}

func TestP6NumberOfFiles(t *testing.T) {
	w := full(t)
	filesAre(t, w, 0, "b", "eighteig", "αααααααα", "αβγω", "ς")
	is(t, "P6: a sixth file", w.Write(0, "c", ""), api.ErrFull)
	is(t, "P6: a sixth file", w.Write(0, "c", "x\n"), api.ErrFull)
	textRefused(t, w, 0, "c", api.ErrFile)
	for _, name := range []string{"b", "ς"} {
		is(t, "P6: one of five again", w.Write(0, name, "new\n"), api.OK)
		textIs(t, w, 0, name, "new\n")
	}
	is(t, "P6: five in the other repository", w.Write(1, "c", "x\n"), api.OK)
	is(t, "P6: Erase", w.Erase(0, "eighteig"), api.OK)
	is(t, "P6: Write in the room of another", w.Write(0, "c", "x\n"), api.OK)
	is(t, "P6: a sixth file", w.Write(0, "eighteig", ""), api.ErrFull)
	filesAre(t, w, 0, "b", "c", "αααααααα", "αβγω", "ς")
	filesAre(t, w, 1, "c")
}

func TestP6Erase(t *testing.T) {
	w := world(t, 2)
	is(t, "P6: Erase of none", w.Erase(0, "a"), api.ErrFile)
	is(t, "P6: Write", w.Write(0, "a", ""), api.OK)
	is(t, "P6: Write", w.Write(0, "b", "y\n"), api.OK)
	is(t, "P6: Erase elsewhere", w.Erase(1, "a"), api.ErrFile)
	textIs(t, w, 0, "a", "")
	is(t, "P6: Erase of an empty file", w.Erase(0, "a"), api.OK)
	is(t, "P6: Erase twice", w.Erase(0, "a"), api.ErrFile)
	textRefused(t, w, 0, "a", api.ErrFile)
	textIs(t, w, 0, "b", "y\n")
	filesAre(t, w, 0, "b")
	is(t, "P6: Write again", w.Write(0, "a", "z\n"), api.OK)
	textIs(t, w, 0, "a", "z\n")
}

// Names stand in the order of their bytes, however they came.
func TestP6NamesRise(t *testing.T) {
	rising := []string{"a", "aa", "b", "z", "α"}
	for turn := range rising {
		for _, backward := range []bool{false, true} {
			names := append(slices.Clone(rising[turn:]), rising[:turn]...)
			if backward {
				slices.Reverse(names)
			}
			w := world(t, 1)
			for _, name := range names {
				is(t, "P6: Write", w.Write(0, name, name), api.OK)
			}
			filesAre(t, w, 0, rising...)
		}
	}
}

// Every set of errors that can come together: the answer is the one that the promise names first.
func TestP6OrderOfErrors(t *testing.T) {
	for _, repo := range []int{0, -1, 2} {
		for _, name := range []string{"b", "c", "C", ""} {
			for _, text := range []string{"x\n", "thirteen rune"} {
				w := full(t)
				want := firstOf(
					fault{repo != 0, api.ErrRepo},
					fault{name == "C" || name == "", api.ErrName},
					fault{text != "x\n", api.ErrText},
					fault{name != "b", api.ErrFull})
				is(t, "P6: Write", w.Write(repo, name, text), want)
			}
			w := full(t)
			want := firstOf(
				fault{repo != 0, api.ErrRepo},
				fault{name == "C" || name == "", api.ErrName},
				fault{name != "b", api.ErrFile})
			got, err := w.Text(repo, name)
			is(t, "P6: Text", err, want)
			if err != api.OK && got != "" {
				t.Errorf("P1: Text with error %d = %q", err, got)
			}
			is(t, "P6: Erase", w.Erase(repo, name), want)
		}
	}
}

type fault struct {
	applies bool
	err     api.Errno
}

func firstOf(faults ...fault) api.Errno {
	for _, f := range faults {
		if f.applies {
			return f.err
		}
	}
	return api.OK
}

// full is a world of two, with five files in 0 and none in 1.
func full(t *testing.T) *stitch.World {
	t.Helper()
	w := world(t, 2)
	for _, name := range []string{"ς", "b", "αβγω", "eighteig", "αααααααα"} {
		is(t, "P6: Write", w.Write(0, name, name+"\n"), api.OK)
	}
	return w
}

func filesAre(t *testing.T, w *stitch.World, repo int, want ...string) {
	t.Helper()
	if got, err := w.Files(repo); !slices.Equal(got, want) || err != api.OK {
		t.Errorf("P6: Files(%d) = %q, %d, want %q", repo, got, err, want)
	}
}

func textRefused(t *testing.T, w *stitch.World, repo int, name string, want api.Errno) {
	t.Helper()
	if got, err := w.Text(repo, name); got != "" || err != want {
		t.Errorf("P6: Text(%d, %q) = %q, %d, want error %d", repo, name, got, err, want)
	}
}
