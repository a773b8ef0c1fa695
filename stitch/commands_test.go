package stitch_test

import (
	"strings"
	"testing"

	"stitch/api"
	"stitch/stitch"
)

func TestP9ExamplesOfTheDocument(t *testing.T) {
	w := world(t, 2)
	writes(t, w, 0, "a", "x\ny\nz\n")
	told(t, w, 0, "new", "add a\n+x\n+y\n+z\n")
	told(t, w, 0, "record 0001", "add a\n+x\n+y\n+z\n")
	told(t, w, 0, "new", "")
	keptIs(t, w, 0, "a", "x\ny\nz\n")
	writes(t, w, 0, "a", "x\nY\nz\nw")
	told(t, w, 0, "record 0002", "alter a\n@2\n-y\n+Y\n@4\n+w$\n")
	told(t, w, 0, "show 0002", "0002\nalter a\n@2\n-y\n+Y\n@4\n+w$\n")
}

// A command that is none is refused with nothing changed, whatever it looks like.
func TestP9NoCommands(t *testing.T) {
	w := histories(t)
	for _, command := range []string{
		"", " ", "logs", "Log", "log 1", "new a", "revert a", "revert 0001", "record", "record 3 a", "record 00F0", "record 12345",
		"record 0bad A", "record 0bad a1", "record 0bad a A", "record 0bad ninelette", "show", "show 001", "show 0001 a", "show 0001 0002",
		"log\n", "\tlog", "record\t0bad", "record 0bad\ta", "record 0bad a\n", "\xff", "revert\xff", "pull 3", "swap", "unrecord",
		"record 0bad" + strings.Repeat(" ", 110), strings.Repeat(" ", 118) + "new",
		"record 0bad" + strings.Repeat(" ωωωωωωωω", 13),
	} {
		refused(t, w, 0, command, api.ErrCommand)
		refused(t, w, 2, command, api.ErrRepo)
		refused(t, w, -1, command, api.ErrRepo)
	}
	refused(t, w, 2, "log", api.ErrRepo)
	told(t, w, 0, "record 0bad b", "add b\n")
}

func TestP9SpacesInCommands(t *testing.T) {
	w := world(t, 1)
	writes(t, w, 0, "a", "x\n")
	writes(t, w, 0, "b", "y\n")
	told(t, w, 0, "  new ", "add a\n+x\n"+"add b\n+y\n")
	told(t, w, 0, "   record   0001   b  ", "add b\n+y\n")
	told(t, w, 0, strings.Repeat(" ", 117)+"log", "0001\n")
	told(t, w, 0, "show"+strings.Repeat(" ", 112)+"0001", "0001\nadd b\n+y\n")
	told(t, w, 0, " revert ", "")
	filesAre(t, w, 0, "b")
}

// A name may be a word that is also the word of a command.
func TestP9NamesLikeCommands(t *testing.T) {
	w := world(t, 1)
	for _, name := range []string{"record", "log", "abcd"} {
		writes(t, w, 0, name, name)
	}
	told(t, w, 0, "record abcd record abcd", "add abcd\n+abcd$\n"+"add record\n+record$\n")
	told(t, w, 0, "new", "add log\n+log$\n")
	told(t, w, 0, "log", "abcd\n")
}

func TestP10NewTellsWhatRecordWouldMake(t *testing.T) {
	w := world(t, 2)
	told(t, w, 0, "new", "")
	writes(t, w, 0, "b", "1\n2\n3\n")
	writes(t, w, 0, "ω", "q")
	writes(t, w, 0, "a", "")
	want := "add a\n" + "add b\n+1\n+2\n+3\n" + "add ω\n+q$\n"
	told(t, w, 0, "new", want)
	told(t, w, 0, "new", want)
	told(t, w, 1, "new", "")
	told(t, w, 0, "log", "")
	keptNot(t, w, 0, "a", api.ErrFile)
	told(t, w, 0, "record 0001", want)
	told(t, w, 0, "new", "")
	writes(t, w, 0, "b", "0\n1\n3\n4")
	erases(t, w, 0, "ω")
	writes(t, w, 0, "c", "c\n")
	want = "alter b\n@1\n+0\n@2\n-2\n@4\n+4$\n" + "add c\n+c\n" + "remove ω\n-q$\n"
	told(t, w, 0, "new", want)
	told(t, w, 0, "record 0002", want)
	told(t, w, 0, "new", "")
}

// What is written and then taken back by hand is no change.
func TestP10NewOfWhatIsTheSameAgain(t *testing.T) {
	w := world(t, 1)
	writes(t, w, 0, "a", "x\ny")
	told(t, w, 0, "record 0001", "add a\n+x\n+y$\n")
	for _, text := range []string{"", "x\ny\n", "x\n", "y", "x\nx\ny", "X\ny"} {
		writes(t, w, 0, "a", text)
		told(t, w, 0, "new", "alter a\n"+alterTold("x\ny", text))
		writes(t, w, 0, "a", "x\ny")
		told(t, w, 0, "new", "")
	}
	erases(t, w, 0, "a")
	told(t, w, 0, "new", "remove a\n-x\n-y$\n")
	writes(t, w, 0, "a", "x\ny")
	told(t, w, 0, "new", "")
	refused(t, w, 0, "record 0002", api.ErrClean)
}

func TestP10Log(t *testing.T) {
	w := world(t, 2)
	told(t, w, 0, "log", "")
	want := []string{"", ""}
	for i, id := range []string{"ffff", "0000", "00a0", "9999", "0a00", "abcd"} {
		writes(t, w, i%2, "a", id)
		does(t, w, i%2, "record "+id)
		want[i%2] += id + "\n"
		told(t, w, 0, "log", want[0])
		told(t, w, 1, "log", want[1])
	}
}

// A patch is told as it is where it stands: what came behind it changes nothing in that.
func TestP10Show(t *testing.T) {
	w := world(t, 2)
	refused(t, w, 0, "show 0001", api.ErrId)
	shows := map[string]string{}
	for _, step := range []struct{ id, text, told string }{
		{"0001", "a\nb\nc\n", "add f\n+a\n+b\n+c\n"},
		{"0002", "a\nb\nB\nc\n", "alter f\n@3\n+B\n"},
		{"0003", "1\n2\na\nb\nB\nc\n", "alter f\n@1\n+1\n+2\n"},
		{"0004", "2\na\nB\nc\nd", "alter f\n@1\n-1\n@4\n-b\n@7\n+d$\n"},
		{"0005", "d", "alter f\n@1\n-2\n-a\n-B\n-c\n"},
		{"0006", "", "alter f\n@1\n-d$\n"},
		{"0007", "a\n", "alter f\n@1\n+a\n"},
	} {
		writes(t, w, 0, "f", step.text)
		told(t, w, 0, "record "+step.id, step.told)
		shows[step.id] = step.id + "\n" + step.told
		for id, want := range shows {
			told(t, w, 0, "show "+id, want)
			refused(t, w, 1, "show "+id, api.ErrId)
		}
	}
	erases(t, w, 0, "f")
	told(t, w, 0, "record 0008", "remove f\n-a\n")
	told(t, w, 0, "show 0008", "0008\nremove f\n-a\n")
	for id, want := range shows {
		told(t, w, 0, "show "+id, want)
	}
	for _, id := range []string{"0000", "0009", "1000", "abcd"} {
		refused(t, w, 0, "show "+id, api.ErrId)
	}
}

func TestP10Revert(t *testing.T) {
	w := world(t, 2)
	told(t, w, 0, "revert", "")
	for name, text := range map[string]string{"a": "x\ny", "b": "", "c": "c\n", "d": "d\n"} {
		writes(t, w, 0, name, text)
	}
	does(t, w, 0, "record 0001")
	erases(t, w, 0, "d")
	does(t, w, 0, "record 0002")
	writes(t, w, 0, "a", "x\n")
	writes(t, w, 0, "b", "y\n")
	erases(t, w, 0, "c")
	writes(t, w, 0, "d", "again\n")
	writes(t, w, 0, "e", "")
	writes(t, w, 1, "a", "other\n")
	told(t, w, 0, "revert", "")
	filesAre(t, w, 0, "a", "b", "c")
	textIs(t, w, 0, "a", "x\ny")
	textIs(t, w, 0, "b", "")
	textIs(t, w, 0, "c", "c\n")
	textIs(t, w, 1, "a", "other\n")
	told(t, w, 0, "new", "")
	told(t, w, 0, "log", "0001\n0002\n")
	told(t, w, 0, "revert", "")
	filesAre(t, w, 0, "a", "b", "c")
	told(t, w, 1, "revert", "")
	filesAre(t, w, 1)
}

// More files may be kept than may be written beside one another; revert lays all of them down.
func TestP10RevertAboveTheLimit(t *testing.T) {
	w := world(t, 1)
	for i, names := range []string{"a b c d e", "f g h i j"} {
		for _, name := range strings.Fields(names) {
			writes(t, w, 0, name, name+"\n")
		}
		does(t, w, 0, "record 000"+string(rune('0'+i))+" "+names)
		for _, name := range strings.Fields(names) {
			erases(t, w, 0, name)
		}
	}
	told(t, w, 0, "revert", "")
	filesAre(t, w, 0, "a", "b", "c", "d", "e", "f", "g", "h", "i", "j")
	for _, name := range strings.Fields("a b c d e f g h i j") {
		textIs(t, w, 0, name, name+"\n")
	}
	told(t, w, 0, "new", "")
	is(t, "P6: a file above the limit", w.Write(0, "k", ""), api.ErrFull)
	is(t, "P6: one of ten again", w.Write(0, "j", "new\n"), api.OK)
	told(t, w, 0, "new", "alter j\n@1\n-j\n+new\n")
}

// told: the command answers this text, and OK.
func told(t *testing.T, w *stitch.World, repo int, command, want string) {
	t.Helper()
	if got, err := w.Do(repo, command); got != want || err != api.OK {
		t.Errorf("Do(%d, %q) = %q, %d, want %q", repo, command, got, err, want)
	}
}

func does(t *testing.T, w *stitch.World, repo int, command string) {
	t.Helper()
	if _, err := w.Do(repo, command); err != api.OK {
		t.Errorf("Do(%d, %q): %d", repo, command, err)
	}
}

// refused: the command answers this error and nothing beside it, and nothing is changed.
func refused(t *testing.T, w *stitch.World, repo int, command string, want api.Errno) {
	t.Helper()
	refusedWith(t, w, repo, command, want, "")
}

// refusedWith: the command answers this error and this text, and nothing is changed.
func refusedWith(t *testing.T, w *stitch.World, repo int, command string, want api.Errno, text string) {
	t.Helper()
	unchanged(t, w, func() api.Errno {
		got, err := w.Do(repo, command)
		if got != text || err != want {
			t.Errorf("Do(%d, %q) = %q, %d, want %q and error %d", repo, command, got, err, text, want)
		}
		return err
	})
}

func writes(t *testing.T, w *stitch.World, repo int, name, text string) {
	t.Helper()
	is(t, "P6: Write of "+name, w.Write(repo, name, text), api.OK)
}

func erases(t *testing.T, w *stitch.World, repo int, name string) {
	t.Helper()
	is(t, "P6: Erase of "+name, w.Erase(repo, name), api.OK)
}

// histories is a world of two, with patches, files that differ from what is kept, and files that were never recorded.
func histories(t *testing.T) *stitch.World {
	t.Helper()
	w := world(t, 2)
	writes(t, w, 0, "a", "x\ny\n")
	writes(t, w, 0, "c", "c\n")
	does(t, w, 0, "record 0001")
	erases(t, w, 0, "c")
	does(t, w, 0, "record 0002")
	writes(t, w, 0, "a", "x\nz")
	writes(t, w, 0, "b", "")
	writes(t, w, 1, "a", "other\n")
	does(t, w, 1, "record 0003")
	erases(t, w, 1, "a")
	return w
}
