package stitch_test

import (
	"testing"

	"stitch/api"
	"stitch/stitch"
)

func TestP16NoSuchRepository(t *testing.T) {
	for n := 1; n <= 3; n++ {
		w := world(t, n)
		records(t, w, 0, "0001", "a", "1\n")
		writes(t, w, 0, "a", "mine\n")
		for from := range 4 {
			digit := string(rune('0' + from))
			for _, id := range []string{"", " 0001", " ffff"} {
				want := firstOf(
					fault{from == 3, api.ErrCommand},
					fault{from >= n, api.ErrRepo},
					fault{id == " ffff" || from > 0 && id != "", api.ErrId})
				if want == api.OK {
					told(t, w, 0, "pull "+digit+id, "")
				} else {
					refused(t, w, 0, "pull "+digit+id, want)
				}
				refused(t, w, n, "pull "+digit+id, api.ErrRepo)
				refused(t, w, -1, "pull "+digit+id, api.ErrRepo)
			}
		}
	}
}

// That this repository or a third one has the patch, or that it was once there, is no help.
func TestP16NoSuchPatch(t *testing.T) {
	w := world(t, 3)
	records(t, w, 0, "0001", "a", "1\n")
	records(t, w, 1, "0002", "b", "1\n")
	records(t, w, 2, "0003", "c", "1\n")
	for repo := range 3 {
		for from, has := range []string{"0001", "0002", "0003"} {
			for _, id := range []string{"0001", "0002", "0003", "0000", "ffff"} {
				if id != has {
					refused(t, w, repo, "pull "+string(rune('0'+from))+" "+id, api.ErrId)
				}
			}
		}
	}
	told(t, w, 0, "pull 1 0002", "0002\n")
	told(t, w, 1, "unrecord 0002", "")
	refused(t, w, 0, "pull 1 0002", api.ErrId)
	refused(t, w, 2, "pull 1 0002", api.ErrId)
	told(t, w, 2, "pull 0 0002", "0002\n")
}

// inTheWay is a world of two, with patches in 0 that 1 does not have: 0002 alters c and adds d, 0003 removes b and alters a; e is of 0001 alone.
func inTheWay(t *testing.T) *stitch.World {
	t.Helper()
	w := world(t, 2)
	for _, name := range []string{"a", "b", "c", "e"} {
		writes(t, w, 0, name, "1\n2\n")
	}
	does(t, w, 0, "record 0001")
	told(t, w, 1, "pull 0", "0001\n")
	writes(t, w, 0, "c", "1\n2\n3\n")
	writes(t, w, 0, "d", "")
	does(t, w, 0, "record 0002")
	erases(t, w, 0, "b")
	writes(t, w, 0, "a", "0\n1\n2\n")
	does(t, w, 0, "record 0003")
	return w
}

// Each set of names that differ, in three ways: the first of those that the coming patches change is told, whichever patch changes it.
func TestP16Dirty(t *testing.T) {
	for set := range 32 {
		for _, text := range []string{"mine\n", "", "-"} {
			w := inTheWay(t)
			first, alone := "", ""
			for i, name := range []string{"e", "d", "c", "b", "a"} {
				if set>>i&1 == 0 || name == "d" && text == "-" {
					continue
				}
				if text == "-" {
					erases(t, w, 1, name)
				} else {
					writes(t, w, 1, name, text)
				}
				if name != "e" {
					first = name
				}
				if name == "c" || name == "d" {
					alone = name
				}
			}
			if first != "" {
				refusedWith(t, w, 1, "pull 0", api.ErrDirty, first)
			}
			if alone != "" {
				refusedWith(t, w, 1, "pull 0 0002", api.ErrDirty, alone)
				continue
			}
			told(t, w, 1, "pull 0 0002", "0002\n")
			if first == "" {
				told(t, w, 1, "pull 0", "0003\n")
				filesAre(t, w, 1, eWhere(set, text, "a", "c", "d")...)
			} else {
				refusedWith(t, w, 1, "pull 0", api.ErrDirty, first)
			}
		}
	}
}

// eWhere adds the name e, unless the set has it and it was taken away.
func eWhere(set int, text string, names ...string) []string {
	if set&1 == 1 && text == "-" {
		return names
	}
	return append(names, "e")
}

// What counts is what is kept ahead of it all: a file that looks as if the patches had come already is in the way too.
func TestP16DirtyAgainstWhatIsKeptAhead(t *testing.T) {
	w := apart(t, "1\n2\n")
	records(t, w, 0, "0002", "a", "1\nx\n2\n")
	records(t, w, 0, "0003", "a", "1\nx\n2\ny\n")
	for _, text := range []string{"1\nx\n2\n", "1\nx\n2\ny\n", "1\n2", ""} {
		writes(t, w, 1, "a", text)
		refusedWith(t, w, 1, "pull 0", api.ErrDirty, "a")
		refusedWith(t, w, 1, "pull 0 0002", api.ErrDirty, "a")
	}
	writes(t, w, 1, "a", "1\n2\n")
	told(t, w, 1, "pull 0", "0002\n0003\n")
	// Patches that take back what they did change the name all the same.
	records(t, w, 0, "0004", "b", "1\n")
	records(t, w, 0, "0005", "b", "-")
	writes(t, w, 1, "b", "mine\n")
	refusedWith(t, w, 1, "pull 0", api.ErrDirty, "b")
	erases(t, w, 1, "b")
	told(t, w, 1, "pull 0", "0004\n0005\n")
	filesAre(t, w, 1, "a")
	// An empty file is not the same as none, neither where one comes nor where one goes.
	records(t, w, 0, "0006", "c", "")
	writes(t, w, 1, "c", "")
	refusedWith(t, w, 1, "pull 0", api.ErrDirty, "c")
	erases(t, w, 1, "c")
	told(t, w, 1, "pull 0", "0006\n")
	records(t, w, 0, "0007", "c", "-")
	erases(t, w, 1, "c")
	refusedWith(t, w, 1, "pull 0", api.ErrDirty, "c")
	told(t, w, 1, "revert", "")
	told(t, w, 1, "pull 0", "0007\n")
	filesAre(t, w, 1, "a")
}

// Files of the other repository that are not recorded there are neither in the way nor taken.
func TestP16OthersFilesAreNoMatter(t *testing.T) {
	w := inTheWay(t)
	writes(t, w, 0, "a", "mine\n")
	erases(t, w, 0, "e")
	writes(t, w, 0, "f", "mine\n")
	told(t, w, 1, "pull 0", "0002\n0003\n")
	filesAre(t, w, 1, "a", "c", "d", "e")
	textIs(t, w, 1, "a", "0\n1\n2\n")
	filesAre(t, w, 0, "a", "c", "d", "f")
	textIs(t, w, 0, "a", "mine\n")
}

// ErrClash goes ahead of ErrDirty, though the clash be in the last patch and another name, and the file differ in the first.
func TestP16ClashAheadOfDirty(t *testing.T) {
	w := inTheWay(t)
	records(t, w, 1, "0004", "b", "1\nx\n2\n")
	writes(t, w, 1, "a", "mine\n")
	writes(t, w, 1, "c", "mine\n")
	refusedWith(t, w, 1, "pull 0", api.ErrClash, "0003")
	refusedWith(t, w, 1, "pull 0 0003", api.ErrClash, "0003")
	refusedWith(t, w, 1, "pull 0 0002", api.ErrDirty, "c")
	told(t, w, 1, "unrecord 0004", "")
	refusedWith(t, w, 1, "pull 0", api.ErrDirty, "a")
	refusedWith(t, w, 1, "pull 0 0003", api.ErrDirty, "a")
	writes(t, w, 1, "a", "1\n2\n")
	refusedWith(t, w, 1, "pull 0", api.ErrDirty, "b")
	writes(t, w, 1, "b", "1\n2\n")
	refusedWith(t, w, 1, "pull 0", api.ErrDirty, "c")
	told(t, w, 1, "pull 0 0003", "0003\n")
	filesAre(t, w, 1, "a", "c", "e")
	textIs(t, w, 1, "c", "mine\n")
}

// Every set of errors that can come together.
func TestP16OrderOfErrors(t *testing.T) {
	for set := range 32 {
		noRepo, noOther, noId, clash, dirty := set&1 > 0, set&2 > 0, set&4 > 0, set&8 > 0, set&16 > 0
		w := inTheWay(t)
		repo, command := 1, "pull 0 0003"
		if noOther {
			command = "pull 2 0003"
		}
		if noRepo {
			repo = 2
		}
		if noId {
			command = command[:7] + "0009"
		}
		if clash {
			records(t, w, 1, "0004", "b", "1\nx\n2\n")
		}
		if dirty {
			writes(t, w, 1, "a", "mine\n")
		}
		switch {
		case noRepo || noOther:
			refused(t, w, repo, command, api.ErrRepo)
		case noId:
			refused(t, w, repo, command, api.ErrId)
		case clash:
			refusedWith(t, w, repo, command, api.ErrClash, "0003")
		case dirty:
			refusedWith(t, w, repo, command, api.ErrDirty, "a")
		default:
			told(t, w, repo, command, "0003\n")
		}
		refused(t, w, repo, command+" a", firstOf(fault{noRepo, api.ErrRepo}, fault{true, api.ErrCommand}))
	}
}
