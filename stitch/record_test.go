package stitch_test

import (
	"fmt"
	"slices"
	"strings"
	"testing"

	"stitch/api"
)

func TestP11AddRemoveAndAddAgain(t *testing.T) {
	w := world(t, 1)
	writes(t, w, 0, "a", "x\ny\n")
	told(t, w, 0, "record 0001", "add a\n+x\n+y\n")
	erases(t, w, 0, "a")
	told(t, w, 0, "record 0002", "remove a\n-x\n-y\n")
	keptNot(t, w, 0, "a", api.ErrFile)
	refused(t, w, 0, "record 0003", api.ErrClean)
	refused(t, w, 0, "record 0003 a", api.ErrFile)
	writes(t, w, 0, "a", "x\nz")
	told(t, w, 0, "record 0003", "add a\n+x\n+z$\n")
	keptIs(t, w, 0, "a", "x\nz")
	writes(t, w, 0, "a", "z")
	told(t, w, 0, "record 0004", "alter a\n@1\n-x\n")
	erases(t, w, 0, "a")
	told(t, w, 0, "record 0005 a", "remove a\n-z$\n")
	writes(t, w, 0, "a", "x\ny\n")
	told(t, w, 0, "record 0006 a a", "add a\n+x\n+y\n")
	told(t, w, 0, "log", "0001\n0002\n0003\n0004\n0005\n0006\n")
	for id, want := range map[string]string{
		"0001": "add a\n+x\n+y\n", "0002": "remove a\n-x\n-y\n", "0003": "add a\n+x\n+z$\n",
		"0004": "alter a\n@1\n-x\n", "0005": "remove a\n-z$\n", "0006": "add a\n+x\n+y\n",
	} {
		told(t, w, 0, "show "+id, id+"\n"+want)
	}
}

// Only what is named is recorded, each name once, told in the names' order.
func TestP11Names(t *testing.T) {
	w := world(t, 1)
	for _, name := range []string{"ω", "b", "a", "aa", "c"} {
		writes(t, w, 0, name, name+"\n")
	}
	told(t, w, 0, "record 0001 ω b ω b b", "add b\n+b\n"+"add ω\n+ω\n")
	told(t, w, 0, "new", "add a\n+a\n"+"add aa\n+aa\n"+"add c\n+c\n")
	told(t, w, 0, "record 0002 ω c b aa", "add aa\n+aa\n"+"add c\n+c\n")
	keptNot(t, w, 0, "a", api.ErrFile)
	keptIs(t, w, 0, "c", "c\n")
	refused(t, w, 0, "record 0003 b c ω b", api.ErrClean)
	writes(t, w, 0, "b", "B\n")
	erases(t, w, 0, "c")
	refused(t, w, 0, "record 0003 ω aa", api.ErrClean)
	refused(t, w, 0, "record 0003 b d", api.ErrFile)
	refused(t, w, 0, "record 0003 d b", api.ErrFile)
	refused(t, w, 0, "record 0003 ω d ω", api.ErrFile)
	told(t, w, 0, "record 0003 c b", "alter b\n@1\n-b\n+B\n"+"remove c\n-c\n")
	told(t, w, 0, "record 0004", "add a\n+a\n")
	told(t, w, 0, "new", "")
	filesAre(t, w, 0, "a", "aa", "b", "ω")
}

// What is not named stays as it was written, and what is kept of it stays too.
func TestP11OtherFilesStay(t *testing.T) {
	w := world(t, 1)
	writes(t, w, 0, "a", "1\n")
	writes(t, w, 0, "b", "1\n")
	does(t, w, 0, "record 0001")
	writes(t, w, 0, "a", "2\n")
	writes(t, w, 0, "b", "2\n")
	told(t, w, 0, "record 0002 b", "alter b\n@1\n-1\n+2\n")
	keptIs(t, w, 0, "a", "1\n")
	keptIs(t, w, 0, "b", "2\n")
	textIs(t, w, 0, "a", "2\n")
	told(t, w, 0, "new", "alter a\n@1\n-1\n+2\n")
}

// Which lines go on living, where there is a choice: many pairs of short texts, against the document's rule worked out plainly.
func TestP11WhatChanged(t *testing.T) {
	var texts []string
	for _, end := range []string{"", "a", "b"} {
		everyText([]string{"a\n", "b\n", "\n"}, 4, func(text string) { texts = append(texts, text+end) })
	}
	for i, before := range texts {
		// Each text against a part of the others, a different one each time: all of them together would take too long.
		for k := i % 7; k < len(texts); k += 7 {
			alters(t, before, texts[k])
		}
	}
}

func TestP11WhatChangedInLongTexts(t *testing.T) {
	texts := []string{
		"", "x", strings.Repeat("a\n", 16), strings.Repeat("a\nb\n", 8), strings.Repeat("b\na\n", 8), strings.Repeat("b\na\n", 7) + "b\na",
		"a\nb\nc\nd\ne\nf\ng\nh\n", "h\ng\nf\ne\nd\nc\nb\na\n", "a\nc\ne\ng\nb\nd\nf\nh\n", "a\nb\nc\na\nb\nc\na\nb\nc\na\nb\nc\n", "c\nb\na\nb\na\nc\nc\nb\na\n",
		strings.Repeat("\n", 16), strings.Repeat(fullLine, 16), strings.Repeat(fullLine, 15) + "abcdefghijωω", "ω\n\xff\n\xce\n\xff", "\xff\n\ufffd\n\xfe\n",
		"$\n", "$", "+a\n-a\n@1\n", "a\n$", "a$\n", "a$", "\n\n\n", "\n \n\n",
	}
	for _, before := range texts {
		for _, behind := range texts {
			alters(t, before, behind)
		}
	}
}

func TestP11SomeChanges(t *testing.T) {
	for _, c := range []struct{ before, behind, want string }{
		{"a\nb\n", "b\na\n", "@1\n-a\n@3\n+a\n"},
		{"a\nb\nc\n", "c\nb\na\n", "@1\n-a\n-b\n@4\n+b\n+a\n"},
		{"a\na\na\n", "a\na\n", "@3\n-a\n"},
		{"a\n", "a\na\na\n", "@2\n+a\n+a\n"},
		{"a\nb\na\nb\n", "b\na\n", "@1\n-a\n@4\n-b\n"},
		{"a\nb\n", "c\nd\n", "@1\n-a\n-b\n+c\n+d\n"},
		{"a\nx\nb\ny\nc\n", "a\nb\nc\n", "@2\n-x\n@4\n-y\n"},
		{"a\nb\nc\n", "x\na\ny\nb\nz\nc\nw\n", "@1\n+x\n@2\n+y\n@3\n+z\n@4\n+w\n"},
		{"a", "a\n", "@1\n-a$\n+a\n"},
		{"a\n", "a", "@1\n-a\n+a$\n"},
		{"a\nb", "a\nb\nc", "@2\n-b$\n+b\n+c$\n"},
		{"a\n", "a\n$", "@2\n+$$\n"},
		{"", "\n", "@1\n+\n"},
	} {
		if got := alterTold(c.before, c.behind); got != c.want {
			t.Errorf("the test's own rule tells %q for %q to %q, want %q", got, c.before, c.behind, c.want)
		}
		alters(t, c.before, c.behind)
	}
}

// alters records both texts, one behind the other, and then the first once more, where cells have died.
func alters(t *testing.T, before, behind string) {
	t.Helper()
	if before == behind {
		return
	}
	w := world(t, 1)
	writes(t, w, 0, "a", before)
	told(t, w, 0, "record 0001", "add a\n"+linesTold("+", before))
	for _, step := range []struct{ id, before, behind string }{{"0002", before, behind}, {"0003", behind, before}, {"0004", before, behind}} {
		want := "alter a\n" + alterTold(step.before, step.behind)
		writes(t, w, 0, "a", step.behind)
		told(t, w, 0, "new", want)
		told(t, w, 0, "record "+step.id, want)
		told(t, w, 0, "new", "")
		told(t, w, 0, "show "+step.id, step.id+"\n"+want)
		keptIs(t, w, 0, "a", step.behind)
	}
}

// An id is given once in a world, in whichever repository; what was refused has not been given.
func TestP11IdsAreGivenOnce(t *testing.T) {
	w := world(t, 3)
	for repo := range 3 {
		writes(t, w, repo, "a", "x\n")
	}
	refused(t, w, 0, "record 0001 b", api.ErrFile)
	refused(t, w, 0, "record 0001 A", api.ErrCommand)
	told(t, w, 0, "record 0001", "add a\n+x\n")
	for repo := range 3 {
		refused(t, w, repo, "record 0001", api.ErrTwice)
		refused(t, w, repo, "record 0001 a", api.ErrTwice)
		refused(t, w, repo, "record 0001 b", api.ErrTwice)
	}
	refused(t, w, 0, "record 0002", api.ErrClean)
	told(t, w, 1, "record 0002", "add a\n+x\n")
	told(t, w, 2, "record 1000", "add a\n+x\n")
	for _, id := range []string{"0001", "0002", "1000"} {
		refused(t, w, 2, "record "+id, api.ErrTwice)
	}
	other := world(t, 1)
	writes(t, other, 0, "a", "x\n")
	told(t, other, 0, "record 0001", "add a\n+x\n")
}

func TestP11NumberOfPatches(t *testing.T) {
	w := world(t, 3)
	for i := range 40 {
		refused(t, w, i%3, fmt.Sprintf("record %04x b", 0xfff0+i%16), api.ErrFile)
		writes(t, w, i%3, "a", fmt.Sprint(i))
		does(t, w, i%3, fmt.Sprintf("record %04x", i))
		refused(t, w, i%3, fmt.Sprintf("record %04x", 0xfff0+i%16), []api.Errno{api.ErrClean, api.ErrFull}[i/39])
	}
	for repo := range 3 {
		refused(t, w, repo, "record ffff", api.ErrFull)
		writes(t, w, repo, "a", "new")
		refused(t, w, repo, "record ffff", api.ErrFull)
		refused(t, w, repo, "record ffff a", api.ErrFull)
	}
	told(t, w, 0, "new", "alter a\n@1\n-39$\n+new$\n")
	told(t, w, 0, "revert", "")
	textIs(t, w, 0, "a", "39")
	other := world(t, 1)
	writes(t, other, 0, "a", "x\n")
	told(t, other, 0, "record ffff", "add a\n+x\n")
}

// Every set of errors that can come together: the answer is the one that the promise names first.
func TestP11OrderOfErrors(t *testing.T) {
	for _, patches := range []int{1, 40} {
		w := world(t, 2)
		for i := range patches {
			writes(t, w, 0, "same", fmt.Sprint(i))
			does(t, w, 0, fmt.Sprintf("record %04x", i))
		}
		writes(t, w, 0, "differs", "x\n")
		for _, repo := range []int{0, 2} {
			for _, id := range []string{"0000", "eeee", "EEEE"} {
				for _, names := range []string{" same", " none", " same none", " none same", " differs none", " none differs", " none none"} {
					want := firstOf(
						fault{repo == 2, api.ErrRepo},
						fault{id == "EEEE", api.ErrCommand},
						fault{id == "0000", api.ErrTwice},
						fault{patches == 40, api.ErrFull},
						fault{strings.Contains(names, "none"), api.ErrFile},
						fault{names == " same", api.ErrClean})
					refused(t, w, repo, "record "+id+names, want)
				}
			}
		}
		erases(t, w, 0, "differs")
		refused(t, w, 0, "record 0000", api.ErrTwice)
		refused(t, w, 0, "record eeee", firstOf(fault{patches == 40, api.ErrFull}, fault{true, api.ErrClean}))
		refused(t, w, 1, "record eeee", firstOf(fault{patches == 40, api.ErrFull}, fault{true, api.ErrClean}))
	}
}

// Nothing but what was recorded here is kept here.
func TestP11RepositoriesAreApart(t *testing.T) {
	w := world(t, 3)
	for repo := range 3 {
		writes(t, w, repo, "a", fmt.Sprint(repo))
	}
	told(t, w, 1, "record 0001", "add a\n+1$\n")
	keptNot(t, w, 0, "a", api.ErrFile)
	keptNot(t, w, 2, "a", api.ErrFile)
	told(t, w, 2, "record 0002", "add a\n+2$\n")
	keptIs(t, w, 1, "a", "1")
	erases(t, w, 1, "a")
	told(t, w, 1, "record 0003", "remove a\n-1$\n")
	keptIs(t, w, 2, "a", "2")
	told(t, w, 0, "new", "add a\n+0$\n")
	for repo, want := range []string{"", "0001\n0003\n", "0002\n"} {
		told(t, w, repo, "log", want)
	}
}

// The number of lines that a patch kills and brings is the least that there can be (P18).
func TestP18NumberOfLines(t *testing.T) {
	texts := []string{"", "a\n", "a\nb\nc\n", "c\nb\na\n", "b\nb\nb\na\n", "a\nb\na\nb\na\nb\n", "b\na\nb\na\nb", "x\ny\nz\na\nb\nc\n"}
	for _, before := range texts {
		for _, behind := range texts {
			w := world(t, 1)
			writes(t, w, 0, "a", before)
			does(t, w, 0, "record 0001")
			writes(t, w, 0, "a", behind)
			answer, _ := w.Do(0, "new")
			changes := slices.DeleteFunc(linesOf(answer), func(line string) bool { return line[0] != '+' && line[0] != '-' })
			o, n := linesOf(before), linesOf(behind)
			if want := len(o) + len(n) - 2*common(o, n, map[rest]int{}); len(changes) != want {
				t.Errorf("P18: %q to %q: %d lines, want %d: %q", before, behind, len(changes), want, answer)
			}
		}
	}
}
