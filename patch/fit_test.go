package patch

import (
	"slices"
	"strings"
	"testing"
)

// A patch never comes without those that it needs; here it does, so that each part of what it names is asked for by itself.

func fitsBehind(t *testing.T, what string, p Patch, patches []Patch, want bool) {
	t.Helper()
	if got := p.Fits(Grow(patches)); got != want {
		t.Errorf("%s fits: %t, want %t", what, got, want)
	}
}

func TestAdditionFits(t *testing.T) {
	patches := record(record(record(nil, "a", "x\n"), "a", "-"), "a", "x\n")
	first, again := patches[0], patches[2]
	for i, want := range []struct{ first, again bool }{{true, false}, {false, false}, {false, true}, {false, false}} {
		fitsBehind(t, "the first addition", first, patches[:i], want.first)
		fitsBehind(t, "the second addition", again, patches[:i], want.again)
	}
}

func TestRemovalFits(t *testing.T) {
	patches := record(record(record(record(nil, "a", "x\ny\n"), "a", "y\nz\n"), "a", "-"), "a", "y\nz\n")
	for i, want := range []bool{false, false, true, false, false} {
		fitsBehind(t, "the removal", patches[2], patches[:i], want)
	}
}

func TestAlterationFits(t *testing.T) {
	patches := record(record(record(record(record(nil, "a", "x\ny\nz\n"), "a", "x\nz\n"), "a", "x\nq\nz\n"), "a", "-"), "a", "x\ny\nz\n")
	for i, want := range []bool{false, true, false, false, false, false} {
		fitsBehind(t, "the one that kills", patches[1], patches[:i], want)
	}
	for i, want := range []bool{false, false, true, false, false, false} {
		fitsBehind(t, "the one that comes behind the dead", patches[2], patches[:i], want)
	}
}

// A hunk that reaches beyond the end of the row, or begins ahead of its beginning, finds nothing to fit there.
func TestHunkBeyondTheRow(t *testing.T) {
	long := record(nil, "a", "1\n2\n3\n")
	end := record(long, "a", "1\n2\n")[1].changes[0].change.(alteration).hunks[0]
	rowIs(t, "what the hunk names", end.named, "20 30 |")
	framed := Grow(long).files["a"].row.framed()
	if !end.fits(framed) {
		t.Errorf("the hunk does not fit its own row")
	}
	for i := range framed {
		if part := framed[:i]; end.fits(part) {
			t.Errorf("the hunk fits %q", told(part))
		}
		if part := framed[i:]; i > 2 && end.fits(part) {
			t.Errorf("the hunk fits %q", told(part))
		}
	}
}

func TestLastWithNeeds(t *testing.T) {
	patches := record(nil, "a", "1\n2\n3\n")
	patches = record(patches, "b", "")
	patches = record(patches, "a", "1\n2\n3\n4\n")
	patches = record(patches, "a", "0\n1\n2\n3\n4\n")
	patches = record(patches, "a", "0\n1\n2\n3\n")
	before := slices.Clone(patches)
	for i, want := range []string{"", "0000", "0001", "0000 0002", "0000 0003", "0000 0002 0004"} {
		var ids []string
		for _, p := range LastWithNeeds(patches[:i]) {
			ids = append(ids, p.Id.String())
		}
		if got := strings.Join(ids, " "); got != want {
			t.Errorf("of %d patches: %q, want %q", i, got, want)
		}
	}
	for i, p := range patches {
		if p.Id != before[i].Id {
			t.Errorf("the list is another one now")
		}
	}
}

func TestClash(t *testing.T) {
	base := record(nil, "a", "1\n2\n3\n")
	one := Make(IdOf("000a"), Grow(base), []File{{"a", true, "0\n1\n2\n3\n"}})
	other := Make(IdOf("000b"), Grow(base), []File{{"a", true, "1\n2\n3\n4\n"}})
	same := Make(IdOf("000c"), Grow(base), []File{{"a", true, "0\n1\n2\n3\n"}})
	for _, c := range []struct {
		coming []Patch
		want   string
	}{
		{nil, ""},
		{[]Patch{one, other}, ""},
		{[]Patch{other, same}, ""},
		{[]Patch{one, same, other}, "000c"},
		{[]Patch{same, other, one, one}, "000a"},
		{[]Patch{base[0], one, same}, "0000"},
	} {
		p, clash := Clash(base, c.coming)
		if clash != (c.want != "") || clash && p.Id.String() != c.want {
			t.Errorf("the first that clashes is %q, %t, want %q", p.Id, clash, c.want)
		}
	}
}
