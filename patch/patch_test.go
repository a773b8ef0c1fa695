package patch

import (
	"slices"
	"strconv"
	"strings"
	"testing"
)

// What a patch names cannot be asked for from outside; whether it fits elsewhere hangs on it.

// record makes the patch of these texts, by name; a text of "-" says that there is no file.
func record(patches []Patch, texts ...string) []Patch {
	kept := Grow(patches)
	var files []File
	for i := 0; i < len(texts); i += 2 {
		f := File{Name: texts[i], There: true, Text: texts[i+1]}
		if f.Text == "-" {
			f.There, f.Text = false, ""
		}
		files = append(files, f)
	}
	return append(patches, Make(IdOf("000"+strconv.Itoa(len(patches))), kept, files))
}

// told is a row as a text: each cell with the number of the patch that brought it, a dead one in brackets.
func told(r row) string {
	var words []string
	for _, s := range r {
		word := strings.TrimSuffix(s.line, "\n") + s.by.String()[3:]
		if s.by == (Id{}) {
			word = "|"
		}
		if !s.alive {
			word = "(" + word + ")"
		}
		words = append(words, word)
	}
	return strings.Join(words, " ")
}

func rowIs(t *testing.T, what string, r row, want string) {
	t.Helper()
	if got := told(r); got != want {
		t.Errorf("%s: %q, want %q", what, got, want)
	}
}

func TestDeadCellsStayInTheRow(t *testing.T) {
	var patches []Patch
	for _, step := range []struct{ text, row, named string }{
		{"x\ny\nz\n", "x0 y0 z0", ""},
		{"x\nY\nz\n", "x0 (y0) Y1 z0", "x0 y0 z0"},
		{"x\nz\n", "x0 (y0) (Y1) z0", "x0 (y0) Y1 z0"},
		{"x\nw\nz\n", "x0 (y0) (Y1) w3 z0", "x0 (y0) (Y1) z0"},
		{"z\n", "(x0) (y0) (Y1) (w3) z0", "| x0 (y0) (Y1) w3 z0"},
		{"q\nz\n", "(x0) (y0) (Y1) (w3) q5 z0", "| (x0) (y0) (Y1) (w3) z0"},
		{"q\n", "(x0) (y0) (Y1) (w3) q5 (z0)", "q5 z0 |"},
		{"q\nr\n", "(x0) (y0) (Y1) (w3) q5 (z0) r7", "q5 (z0) |"},
		{"", "(x0) (y0) (Y1) (w3) (q5) (z0) (r7)", "| (x0) (y0) (Y1) (w3) q5 (z0) r7 |"},
		{"x\n", "(x0) (y0) (Y1) (w3) (q5) (z0) (r7) x9", "| (x0) (y0) (Y1) (w3) (q5) (z0) (r7) |"},
	} {
		patches = record(patches, "a", step.text)
		f := Grow(patches).files["a"]
		rowIs(t, "the row", f.row, step.row)
		if f.by != IdOf("0000") || !f.alive {
			t.Errorf("the file is of %s, alive %t", f.by, f.alive)
		}
		if c, ok := patches[len(patches)-1].changes[0].change.(alteration); ok {
			rowIs(t, "what the hunk names", c.hunks[0].named, step.named)
			if c.file != IdOf("0000") || len(c.hunks) != 1 {
				t.Errorf("the patch alters the file of %s in %d hunks", c.file, len(c.hunks))
			}
		}
	}
}

func TestSeveralHunks(t *testing.T) {
	patches := record(record(nil, "a", "a\nb\nc\nd\n"), "a", "1\na\nB\nc\n2\n3\n")
	rowIs(t, "the row", Grow(patches).files["a"].row, "11 a0 (b0) B1 c0 (d0) 21 31")
	var named []string
	for _, h := range patches[1].changes[0].change.(alteration).hunks {
		named = append(named, told(h.named)+": "+told(h.brings))
	}
	if want := []string{"| a0: 11", "a0 b0 c0: B1", "c0 d0 |: 21 31"}; !slices.Equal(named, want) {
		t.Errorf("the hunks name %q, want %q", named, want)
	}
}

func TestEmptyRow(t *testing.T) {
	patches := record(record(nil, "a", ""), "a", "x")
	h := patches[1].changes[0].change.(alteration).hunks[0]
	rowIs(t, "what the hunk names", h.named, "| |")
	rowIs(t, "the row", Grow(patches).files["a"].row, "x1")
}

// The two edges are different cells, and so are the lines of equal text.
func TestCellsAreTheirOwn(t *testing.T) {
	patches := record(record(nil, "a", "x\nx\nx\n", "b", "x\nx\n"), "a", "x\nx\nx\nx\n", "b", "x\nx\nx\n")
	kept := Grow(patches)
	all := slices.Concat(kept.files["a"].row.framed(), kept.files["b"].row)
	for i, s := range all {
		if slices.Index(all, s) != i {
			t.Errorf("the cell %v stands twice", s)
		}
	}
	if len(all) != 9 {
		t.Errorf("there are %d cells", len(all))
	}
}

func TestRemovalNamesTheWholeRow(t *testing.T) {
	patches := record(record(record(nil, "a", "x\ny\n"), "a", "y\nz\n"), "a", "-")
	c := patches[2].changes[0].change.(removal)
	rowIs(t, "what the removal names", c.row, "(x0) y0 z1")
	f := Grow(patches).files["a"]
	rowIs(t, "the row", f.row, "(x0) (y0) (z1)")
	if c.file != IdOf("0000") || f.by != IdOf("0000") || f.alive {
		t.Errorf("the removal names the file of %s; the last file is of %s, alive %t", c.file, f.by, f.alive)
	}
}

func TestAdditionNamesTheLastFile(t *testing.T) {
	patches := record(record(record(nil, "a", "x\n"), "a", "-"), "a", "x\n", "b", "y\n")
	first := patches[0].changes[0].change.(addition)
	again := patches[2].changes[0].change.(addition)
	other := patches[2].changes[1].change.(addition)
	if first.last != (Id{}) || again.last != IdOf("0000") || other.last != (Id{}) {
		t.Errorf("the additions name the files of %q, %q, %q", first.last, again.last, other.last)
	}
	f := Grow(patches).files["a"]
	rowIs(t, "the row", f.row, "x2")
	if f.by != IdOf("0002") || !f.alive {
		t.Errorf("the last file is of %s, alive %t", f.by, f.alive)
	}
}

// What the patches make is made anew each time, and leaves the patches as they were.
func TestGrowingChangesNoPatch(t *testing.T) {
	patches := record(record(record(record(nil, "a", "x\ny\n"), "a", "y\nz\n"), "a", "-"), "a", "x\n", "b", "y\n")
	tell := func() string {
		all := ""
		for i, p := range patches {
			all += p.Id.String() + "\n" + p.Tell(Grow(patches[:i]))
		}
		return all
	}
	want := "0000\nadd a\n+x\n+y\n" + "0001\nalter a\n@1\n-x\n@3\n+z\n" + "0002\nremove a\n-y\n-z\n" + "0003\nadd a\n+x\n" + "add b\n+y\n"
	for range 3 {
		if got := tell(); got != want {
			t.Errorf("told %q, want %q", got, want)
		}
	}
	if names := Grow(patches[:3]).Names(); len(names) != 0 {
		t.Errorf("kept are %q", names)
	}
	if names := Grow(patches).Names(); !slices.Equal(names, []string{"a", "b"}) {
		t.Errorf("kept are %q", names)
	}
}
