package stitch_test

import (
	"maps"
	"slices"
	"strings"
	"testing"

	"stitch/api"
	"stitch/stitch"
)

func TestP14ExampleOfTheDocument(t *testing.T) {
	w := recorded(t, "x\ny\nz\n", "x\nY\nz\nw")
	told(t, w, 0, "show 0002", "0002\nalter a\n@2\n-y\n+Y\n@4\n+w$\n")
	refusedWith(t, w, 0, "unrecord 0001", api.ErrNeeded, "0002")
	refusedWith(t, w, 0, "swap 0002", api.ErrNeeded, "0001")
}

// recorded is a world of two; in 0 these texts of the file a are recorded one behind the other, as 0001, 0002, ..; "-" says that there is no file.
func recorded(t *testing.T, texts ...string) *stitch.World {
	t.Helper()
	w := world(t, 2)
	for i, text := range texts {
		if text == "-" {
			erases(t, w, 0, "a")
		} else {
			writes(t, w, 0, "a", text)
		}
		does(t, w, 0, "record 000"+string(rune('1'+i)))
	}
	return w
}

// The two patches change places and nothing else does; each is told as it is where it stands now.
func TestP14TwoChangePlaces(t *testing.T) {
	w := recorded(t, "1\n2\n3\n4\n", "0\n0\n1\n2\n3\n4\n", "0\n0\n1\n2\n4\n", "0\n0\n1\n2\n4\n5")
	writes(t, w, 0, "a", "mine\n")
	writes(t, w, 0, "b", "")
	told(t, w, 0, "swap 0003", "")
	told(t, w, 0, "log", "0001\n0003\n0002\n0004\n")
	told(t, w, 0, "show 0001", "0001\nadd a\n+1\n+2\n+3\n+4\n")
	told(t, w, 0, "show 0003", "0003\nalter a\n@3\n-3\n")
	told(t, w, 0, "show 0002", "0002\nalter a\n@1\n+0\n+0\n")
	told(t, w, 0, "show 0004", "0004\nalter a\n@6\n+5$\n")
	told(t, w, 0, "swap 0004", "")
	told(t, w, 0, "log", "0001\n0003\n0004\n0002\n")
	told(t, w, 0, "show 0004", "0004\nalter a\n@4\n+5$\n")
	told(t, w, 0, "show 0002", "0002\nalter a\n@1\n+0\n+0\n")
	told(t, w, 0, "swap 0004", "")
	told(t, w, 0, "log", "0001\n0004\n0003\n0002\n")
	told(t, w, 0, "show 0004", "0004\nalter a\n@5\n+5$\n")
	told(t, w, 0, "show 0003", "0003\nalter a\n@3\n-3\n")
	refusedWith(t, w, 0, "swap 0004", api.ErrNeeded, "0001")
	keptIs(t, w, 0, "a", "0\n0\n1\n2\n4\n5")
	textIs(t, w, 0, "a", "mine\n")
	filesAre(t, w, 0, "a", "b")
	told(t, w, 0, "new", "alter a\n@1\n-0\n-0\n-1\n-2\n-4\n-5$\n+mine\n"+"add b\n")
	told(t, w, 1, "log", "")
}

// Hunks side by side: a living line between them keeps them apart, and nothing else does.
func TestP14SideBySide(t *testing.T) {
	for _, c := range []struct {
		one, two string
		needs    bool
	}{
		{"1\nx\n2\n3\n4\n", "1\nx\n2\ny\n3\n4\n", false},
		{"1\nx\n2\n3\n4\n", "y\n1\nx\n2\n3\n4\n", false},
		{"1\nx\n2\n3\n4\n", "1\nx\n2\n4\n", false},
		{"1\nx\n2\n3\n4\n", "1\nx\ny\n2\n3\n4\n", true},
		{"1\nx\n2\n3\n4\n", "1\ny\nx\n2\n3\n4\n", true},
		{"1\nx\n2\n3\n4\n", "1\nx\n3\n4\n", true},
		{"1\nx\n2\n3\n4\n", "x\n2\n3\n4\n", true},
		{"1\nx\n2\n3\n4\n", "1\ny\n2\n3\n4\n", true},
		{"1\nx\n2\n3\n4\n", "1\n2\n3\n4\n", true},
		{"1\n3\n4\n", "y\n1\n3\n4\n", false},
		{"1\n3\n4\n", "1\n3\ny\n4\n", false},
		{"1\n3\n4\n", "1\n3\n", false},
		{"1\n3\n4\n", "1\ny\n3\n4\n", true},
		{"1\n3\n4\n", "1\n4\n", true},
		{"1\n3\n4\n", "3\n4\n", true},
		{"1\n4\n", "1\n4\ny\n", false},
		{"1\n4\n", "y\n4\n", true},
		{"2\n3\n4\n", "y\n2\n3\n4\n", true},
		{"2\n3\n4\n", "2\ny\n3\n4\n", false},
		{"2\n3\n4\n", "2\n4\n", false},
		{"2\n3\n4\n", "3\n4\n", true},
		{"1\n2\n3\n", "1\n2\n3\ny\n", true},
		{"1\n2\n3\n", "1\n2\ny\n3\n", false},
		{"1\n2\n3\n4\nx", "1\n2\n3\n4\nx\n", true},
		{"1\n2\n3\n4\nx\n", "y\n1\n2\n3\n4\nx\n", false},
		{"x\n2\ny\n4\n", "x\n2\nz\ny\n4\n", true},
		{"x\n2\n3\ny\n", "x\n2\nz\n3\ny\n", false},
		{"x\n2\n3\ny\n", "x\nz\ny\n", true},
		{"x\n2\n3\ny\n", "z\n2\n3\nz\n", true},
		{"", "y\n", true},
		{"", "1\n2\n3\n4\n", true},
		{"1\n2\nx\n3\n4\n", "y\n2\nx\n3\ny\n", false},
		{"1\n2\nx\n3\n4\n", "y\n1\n2\nx\ny\n3\n4\n", true},
	} {
		w := recorded(t, "1\n2\n3\n4\n", c.one, c.two)
		if c.needs {
			refusedWith(t, w, 0, "swap 0003", api.ErrNeeded, "0002")
			refusedWith(t, w, 0, "unrecord 0002", api.ErrNeeded, "0003")
			continue
		}
		told(t, w, 0, "swap 0003", "")
		told(t, w, 0, "log", "0001\n0003\n0002\n")
		keptIs(t, w, 0, "a", c.two)
	}
}

// Dead cells between two living ones: what comes there needs those that brought them and those that killed them.
func TestP14DeadCells(t *testing.T) {
	w := recorded(t, "x\ny\n", "x\np\ny\n", "x\ny\n", "x\nr\ny\n")
	refusedWith(t, w, 0, "swap 0004", api.ErrNeeded, "0003")
	refusedWith(t, w, 0, "unrecord 0003", api.ErrNeeded, "0004")
	refusedWith(t, w, 0, "unrecord 0002", api.ErrNeeded, "0003")
	told(t, w, 0, "order", "0001\n0002\n0003\n0004\n")
	// A line that stands ahead of the dead cell needs nobody but the one that brought its neighbours.
	writes(t, w, 0, "a", "q\nx\nr\ny\n")
	told(t, w, 0, "record 0000", "alter a\n@1\n+q\n")
	for range 3 {
		told(t, w, 0, "swap 0000", "")
	}
	refusedWith(t, w, 0, "swap 0000", api.ErrNeeded, "0001")
	told(t, w, 0, "log", "0001\n0000\n0002\n0003\n0004\n")
	told(t, w, 0, "show 0004", "0004\nalter a\n@3\n+r\n")
	told(t, w, 0, "show 0003", "0003\nalter a\n@3\n-p\n")
	keptIs(t, w, 0, "a", "q\nx\nr\ny\n")
}

// What a patch names alive, one behind it may kill: the first does not need the second for that.
func TestP14NamedAlive(t *testing.T) {
	w := recorded(t, "1\n2\n3\n", "1\n2\nx\n3\n", "1\nx\n3\n", "1\ny\nx\n3\n", "-")
	refusedWith(t, w, 0, "unrecord 0004", api.ErrNeeded, "0005")
	told(t, w, 0, "unrecord 0005", "")
	refusedWith(t, w, 0, "unrecord 0003", api.ErrNeeded, "0004")
	told(t, w, 0, "unrecord 0004", "")
	told(t, w, 0, "unrecord 0003", "")
	keptIs(t, w, 0, "a", "1\n2\nx\n3\n")
}

// One name among several is enough to hold a patch back; names alone do not.
func TestP14SeveralFiles(t *testing.T) {
	w := world(t, 1)
	for _, name := range []string{"a", "b", "c"} {
		writes(t, w, 0, name, "1\n2\n3\n")
	}
	does(t, w, 0, "record 0001")
	writes(t, w, 0, "a", "x\n1\n2\n3\n")
	writes(t, w, 0, "c", "x\n1\n2\n3\n")
	does(t, w, 0, "record 0002")
	writes(t, w, 0, "b", "1\n2\n3\ny\n")
	writes(t, w, 0, "c", "x\n1\n2\n3\ny\n")
	does(t, w, 0, "record 0003")
	erases(t, w, 0, "b")
	writes(t, w, 0, "a", "x\n1\n2\n3\ny\n")
	does(t, w, 0, "record 0004")
	refusedWith(t, w, 0, "swap 0004", api.ErrNeeded, "0003")
	told(t, w, 0, "swap 0003", "")
	told(t, w, 0, "log", "0001\n0003\n0002\n0004\n")
	told(t, w, 0, "show 0003", "0003\nalter b\n@4\n+y\n"+"alter c\n@4\n+y\n")
	told(t, w, 0, "show 0002", "0002\nalter a\n@1\n+x\n"+"alter c\n@1\n+x\n")
	told(t, w, 0, "swap 0004", "")
	told(t, w, 0, "show 0004", "0004\nalter a\n@4\n+y\n"+"remove b\n-1\n-2\n-3\n-y\n")
	refusedWith(t, w, 0, "swap 0004", api.ErrNeeded, "0003")
	keptIs(t, w, 0, "a", "x\n1\n2\n3\ny\n")
	keptNot(t, w, 0, "b", api.ErrFile)
	keptIs(t, w, 0, "c", "x\n1\n2\n3\ny\n")
	told(t, w, 0, "new", "")
}

// A file that one patch brings is not the file of another name that it brings.
func TestP14FilesOfOnePatch(t *testing.T) {
	w := world(t, 1)
	writes(t, w, 0, "a", "")
	writes(t, w, 0, "b", "")
	does(t, w, 0, "record 0001")
	erases(t, w, 0, "a")
	does(t, w, 0, "record 0002")
	erases(t, w, 0, "b")
	does(t, w, 0, "record 0003")
	writes(t, w, 0, "b", "")
	does(t, w, 0, "record 0004")
	told(t, w, 0, "swap 0003", "")
	told(t, w, 0, "swap 0004", "")
	told(t, w, 0, "log", "0001\n0003\n0004\n0002\n")
	refusedWith(t, w, 0, "swap 0004", api.ErrNeeded, "0003")
	told(t, w, 0, "order", "0001\n0002\n0003\n0004\n")
	told(t, w, 0, "unrecord 0002", "")
	keptIs(t, w, 0, "a", "")
}

func TestP14RemovedAndAddedAgain(t *testing.T) {
	w := recorded(t, "1\n2\n", "1\nx\n2\n", "-", "1\n", "1\ny\n")
	for _, c := range []struct{ id, ahead string }{{"0002", "0001"}, {"0003", "0002"}, {"0004", "0003"}, {"0005", "0004"}} {
		refusedWith(t, w, 0, "swap "+c.id, api.ErrNeeded, c.ahead)
	}
	// The new file names the old one, which 0001 brought and 0003 removed; of what happened to its lines it knows nothing.
	refusedWith(t, w, 0, "unrecord 0001", api.ErrNeeded, "0002")
	refusedWith(t, w, 0, "unrecord 0003", api.ErrNeeded, "0004")
	writes(t, w, 0, "b", "")
	does(t, w, 0, "record 0000")
	for range 5 {
		told(t, w, 0, "swap 0000", "")
	}
	refused(t, w, 0, "swap 0000", api.ErrFirst)
	told(t, w, 0, "log", "0000\n0001\n0002\n0003\n0004\n0005\n")
	told(t, w, 0, "swap 0001", "")
}

func TestP14FilesWithoutALine(t *testing.T) {
	w := recorded(t, "", "x\n", "", "-", "", "y")
	for _, c := range []struct{ id, ahead string }{{"0002", "0001"}, {"0003", "0002"}, {"0004", "0003"}, {"0005", "0004"}, {"0006", "0005"}} {
		refusedWith(t, w, 0, "swap "+c.id, api.ErrNeeded, c.ahead)
	}
	w = recorded(t, "", "-", "")
	refusedWith(t, w, 0, "swap 0002", api.ErrNeeded, "0001")
	refusedWith(t, w, 0, "swap 0003", api.ErrNeeded, "0002")
	refusedWith(t, w, 0, "unrecord 0001", api.ErrNeeded, "0002")
	refusedWith(t, w, 0, "unrecord 0002", api.ErrNeeded, "0003")
}

func TestP14OrderOfErrors(t *testing.T) {
	w := recorded(t, "1\n", "1\n2\n", "-")
	writes(t, w, 1, "a", "1\n")
	does(t, w, 1, "record 0004")
	refused(t, w, 0, "swap 0001", api.ErrFirst)
	refused(t, w, 1, "swap 0004", api.ErrFirst)
	for _, id := range []string{"0000", "0004", "ffff"} {
		refused(t, w, 0, "swap "+id, api.ErrId)
	}
	for _, id := range []string{"0000", "0001", "0002", "0003"} {
		refused(t, w, 1, "swap "+id, api.ErrId)
		refused(t, w, 2, "swap "+id, api.ErrRepo)
		refused(t, w, -1, "swap "+id, api.ErrRepo)
		refused(t, w, 0, "swap "+id+" a", api.ErrCommand)
	}
	told(t, w, 0, "unrecord 0003", "")
	refused(t, w, 0, "swap 0003", api.ErrId)
	told(t, w, 1, "unrecord 0004", "")
	refused(t, w, 1, "swap 0004", api.ErrId)
	refused(t, world(t, 1), 0, "swap 0001", api.ErrId)
}

// Swaps of a world leave another with the same ids as it was.
func TestP2SwapsStayInTheirWorld(t *testing.T) {
	one, other := recorded(t, "1\n", "0\n1\n", "0\n1\n2\n"), recorded(t, "1\n", "0\n1\n", "0\n1\n2\n")
	want := seen(t, other)
	told(t, one, 0, "swap 0003", "")
	told(t, one, 0, "unrecord 0002", "")
	if got := seen(t, other); !maps.Equal(got, want) {
		t.Errorf("P2: another world tells %q, was %q", got, want)
	}
}

// A patch that is swapped twice stands where it stood, and all is told as before.
func TestP18SwappedTwice(t *testing.T) {
	swapped := 0
	for seed := range 30 {
		m := history(t, seed)
		want := seen(t, m.w)
		ids := strings.Fields(want["0 log"])
		for i := 1; i < len(ids); i++ {
			if !m.do(0, "swap "+ids[i]) {
				continue
			}
			swapped++
			for name, text := range want {
				if strings.HasPrefix(name, "0 kept ") || strings.HasPrefix(name, "0 file ") || name == "0 new" || name == "0 order" {
					if got := seen(t, m.w)[name]; got != text {
						t.Errorf("P18: after a swap %s is %q, was %q", name, got, text)
					}
				}
			}
			told(t, m.w, 0, "swap "+ids[i-1], "")
			if got := seen(t, m.w); !maps.Equal(got, want) {
				t.Errorf("P18: after two swaps there is %q, was %q", got, want)
			}
			slices.Reverse(m.repos[0].patches[i-1 : i+1])
		}
	}
	if swapped < 50 {
		t.Errorf("only %d swaps", swapped)
	}
}
