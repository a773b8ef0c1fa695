package stitch_test

import (
	"fmt"
	"maps"
	"strings"
	"testing"

	"stitch/api"
)

// A patch from the middle of the list goes; the files stay, and those behind it are told as they are then.
func TestP12FromTheMiddle(t *testing.T) {
	w := recorded(t, "1\n2\n3\n", "0\n0\n1\n2\n3\n", "0\n0\n1\n3\n", "0\n0\n1\n3\n4\n")
	told(t, w, 0, "unrecord 0002", "")
	told(t, w, 0, "log", "0001\n0003\n0004\n")
	told(t, w, 0, "show 0003", "0003\nalter a\n@2\n-2\n")
	told(t, w, 0, "show 0004", "0004\nalter a\n@3\n+4\n")
	keptIs(t, w, 0, "a", "1\n3\n4\n")
	textIs(t, w, 0, "a", "0\n0\n1\n3\n4\n")
	told(t, w, 0, "new", "alter a\n@1\n+0\n+0\n")
	told(t, w, 0, "unrecord 0003", "")
	keptIs(t, w, 0, "a", "1\n2\n3\n4\n")
	told(t, w, 0, "show 0004", "0004\nalter a\n@4\n+4\n")
	told(t, w, 0, "new", "alter a\n@1\n+0\n+0\n@2\n-2\n")
	told(t, w, 0, "record 0005", "alter a\n@1\n+0\n+0\n@2\n-2\n")
	told(t, w, 0, "log", "0001\n0004\n0005\n")
	told(t, w, 0, "new", "")
	for _, id := range []string{"0002", "0003"} {
		refused(t, w, 0, "show "+id, api.ErrId)
		refused(t, w, 0, "unrecord "+id, api.ErrId)
		refused(t, w, 0, "record "+id, api.ErrTwice)
	}
}

// The one that is told is the first of the list, whatever its id; the list may change.
func TestP12FirstThatNeedsIt(t *testing.T) {
	w := recorded(t, "1\n2\n3\n")
	for _, step := range []struct{ id, text string }{{"000f", "0\n1\n2\n3\n"}, {"000b", "0\n1\n2\n3\n4\n"}, {"000d", "0\n1\nx\n2\n3\n4\n"}} {
		writes(t, w, 0, "a", step.text)
		does(t, w, 0, "record "+step.id)
	}
	refusedWith(t, w, 0, "unrecord 0001", api.ErrNeeded, "000f")
	does(t, w, 0, "swap 000b")
	refusedWith(t, w, 0, "unrecord 0001", api.ErrNeeded, "000b")
	does(t, w, 0, "swap 000d")
	does(t, w, 0, "swap 000d")
	refusedWith(t, w, 0, "unrecord 0001", api.ErrNeeded, "000d")
	does(t, w, 0, "unrecord 000d")
	refusedWith(t, w, 0, "unrecord 0001", api.ErrNeeded, "000b")
	does(t, w, 0, "unrecord 000f")
	does(t, w, 0, "unrecord 000b")
	told(t, w, 0, "unrecord 0001", "")
	told(t, w, 0, "log", "")
	keptNot(t, w, 0, "a", api.ErrFile)
	textIs(t, w, 0, "a", "0\n1\nx\n2\n3\n4\n")
}

// The one that needs it need not be its neighbour.
func TestP12NeededFromAfar(t *testing.T) {
	w := recorded(t, "1\n2\n3\n4\n5\n", "1\nx\n2\n3\n4\n5\n", "1\nx\n2\n3\n5\n", "1\nx\n2\n3\n5\n6\n", "1\n2\n3\n5\n6\n")
	refusedWith(t, w, 0, "unrecord 0002", api.ErrNeeded, "0005")
	refusedWith(t, w, 0, "obliterate 0002", api.ErrNeeded, "0005")
	told(t, w, 0, "unrecord 0005", "")
	told(t, w, 0, "unrecord 0002", "")
	keptIs(t, w, 0, "a", "1\n2\n3\n5\n6\n")
	told(t, w, 0, "new", "")
	told(t, w, 0, "log", "0001\n0003\n0004\n")
}

func TestP12FilesThatComeAndGo(t *testing.T) {
	w := recorded(t, "1\n", "-", "2\n", "-")
	told(t, w, 0, "unrecord 0004", "")
	keptIs(t, w, 0, "a", "2\n")
	filesAre(t, w, 0)
	told(t, w, 0, "new", "remove a\n-2\n")
	told(t, w, 0, "unrecord 0003", "")
	keptNot(t, w, 0, "a", api.ErrFile)
	told(t, w, 0, "new", "")
	told(t, w, 0, "unrecord 0002", "")
	keptIs(t, w, 0, "a", "1\n")
	writes(t, w, 0, "a", "1\n3\n")
	told(t, w, 0, "record 0005", "alter a\n@2\n+3\n")
	refusedWith(t, w, 0, "unrecord 0001", api.ErrNeeded, "0005")
}

// Another file of the name comes where the first was taken back: nothing is left of that one.
func TestP12NothingIsLeft(t *testing.T) {
	w := recorded(t, "1\n2\n")
	told(t, w, 0, "unrecord 0001", "")
	writes(t, w, 0, "a", "1\n2\n3\n")
	told(t, w, 0, "record 0002", "add a\n+1\n+2\n+3\n")
	told(t, w, 0, "unrecord 0002", "")
	told(t, w, 0, "new", "add a\n+1\n+2\n+3\n")
	w = recorded(t, "1\n2\n", "1\nx\n2\n")
	told(t, w, 0, "unrecord 0002", "")
	writes(t, w, 0, "a", "1\ny\n2\n")
	told(t, w, 0, "record 0003", "alter a\n@2\n+y\n")
	told(t, w, 0, "show 0003", "0003\nalter a\n@2\n+y\n")
	keptIs(t, w, 0, "a", "1\ny\n2\n")
}

// More may be kept than Write takes, once what killed some of it is gone.
func TestP12AboveTheLimits(t *testing.T) {
	full := strings.Repeat("x\n", 14)
	w := recorded(t, "1\n"+full+"2\n", "1\n2\n", "1\n2\n"+full)
	told(t, w, 0, "unrecord 0002", "")
	keptIs(t, w, 0, "a", "1\n"+full+"2\n"+full)
	told(t, w, 0, "new", "alter a\n@2\n"+strings.Repeat("-x\n", 14))
	told(t, w, 0, "revert", "")
	textIs(t, w, 0, "a", "1\n"+full+"2\n"+full)
	told(t, w, 0, "new", "")
	erases(t, w, 0, "a")
	told(t, w, 0, "record 0004", "remove a\n-1\n"+strings.Repeat("-x\n", 14)+"-2\n"+strings.Repeat("-x\n", 14))
}

func TestP12OrderOfErrors(t *testing.T) {
	w := recorded(t, "1\n", "1\n2\n")
	writes(t, w, 1, "a", "1\n")
	does(t, w, 1, "record 0003")
	for _, word := range []string{"unrecord ", "obliterate "} {
		for _, id := range []string{"0000", "0003", "ffff"} {
			refused(t, w, 0, word+id, api.ErrId)
		}
		for _, id := range []string{"0000", "0001", "0002"} {
			refused(t, w, 1, word+id, api.ErrId)
			refused(t, w, 2, word+id, api.ErrRepo)
			refused(t, w, -1, word+id, api.ErrRepo)
			refused(t, w, 0, word+id+" a", api.ErrCommand)
		}
		refusedWith(t, w, 0, word+"0001", api.ErrNeeded, "0002")
		refused(t, world(t, 1), 0, word+"0001", api.ErrId)
	}
	told(t, w, 0, "unrecord 0002", "")
	told(t, w, 1, "unrecord 0003", "")
	for repo := range 2 {
		for _, id := range []string{"0002", "0003"} {
			refused(t, w, repo, "unrecord "+id, api.ErrId)
			refused(t, w, repo, "obliterate "+id, api.ErrId)
		}
	}
}

// Patches that are nowhere any more were recorded all the same: their ids are given, and they count.
func TestP11PatchesThatAreGone(t *testing.T) {
	w := world(t, 2)
	writes(t, w, 0, "a", "x\n")
	writes(t, w, 1, "a", "x\n")
	for i := range 40 {
		id := fmt.Sprintf("%04x", i)
		does(t, w, i%2, "record "+id)
		refused(t, w, 1-i%2, "record "+id, api.ErrTwice)
		does(t, w, i%2, "unrecord "+id)
		refused(t, w, i%2, "record "+id, api.ErrTwice)
		refused(t, w, 1-i%2, "record "+id, api.ErrTwice)
	}
	refused(t, w, 0, "record 0000", api.ErrTwice)
	refused(t, w, 0, "record ffff", api.ErrFull)
	refused(t, w, 1, "record ffff a", api.ErrFull)
	told(t, w, 0, "log", "")
}

// After `record` and `unrecord` of a patch all is as it was, whatever the patch.
func TestP18RecordAndUnrecord(t *testing.T) {
	for seed := range 30 {
		m := history(t, seed)
		want := seen(t, m.w)
		for i, names := range []string{"", " a", " b", " ω", " a b"} {
			id := fmt.Sprintf("f00%d", i)
			if _, err := m.w.Do(0, "record "+id+names); err != api.OK {
				continue
			}
			told(t, m.w, 0, "unrecord "+id, "")
			if got := seen(t, m.w); !maps.Equal(got, want) {
				t.Errorf("P18: after record and unrecord there is %q, was %q", got, want)
			}
		}
	}
}
