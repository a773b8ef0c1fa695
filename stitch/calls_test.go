package stitch_test

import (
	"maps"
	"math"
	"strconv"
	"strings"
	"testing"

	"stitch/api"
	"stitch/stitch"
)

func wildNumbers() []int {
	return []int{math.MinInt, -1 << 32, -1, 0, 1, 2, 3, 4, 1 << 31, 1 << 32, math.MaxInt}
}

func wildTexts() []string {
	const huge = 9000000
	return []string{
		"", " ", "a", "b", "A", "\n", "\x00", "\xff", "\xce", "\xf0\x9d", "ω", "𝄞", "log", "record 0001", "pull 0", "thirteen rune",
		strings.Repeat("a", huge), strings.Repeat(" ", huge), strings.Repeat("\n", huge), strings.Repeat("\xff", huge),
		strings.Repeat("record 0001 ", huge/12), strings.Repeat("ω", huge/2), strings.Repeat(" ", huge) + "log",
	}
}

func TestP1TextsOfAnyKind(t *testing.T) {
	for _, text := range wildTexts() {
		if lines, err := stitch.Lines(text); err != api.OK && len(lines) != 0 {
			t.Errorf("P1: Lines(%.50q) = %.50q with error %d", text, lines, err)
		}
		if words, err := stitch.Words(text); err != api.OK && len(words) != 0 {
			t.Errorf("P1: Words(%.50q) = %.50q with error %d", text, words, err)
		}
	}
}

func TestP1WorldsOfAnyNumber(t *testing.T) {
	for _, n := range wildNumbers() {
		if w, err := stitch.New(n); (w == nil) != (err != api.OK) {
			t.Errorf("P1: New(%d) = %v with error %d", n, w, err)
		}
	}
}

func TestP1ErrorsChangeNothing(t *testing.T) {
	w := histories(t)
	for _, name := range []string{"d", "e", "f"} {
		is(t, "P6: Write", w.Write(0, name, ""), api.OK)
	}
	for _, repo := range wildNumbers() {
		for _, a := range wildTexts() {
			for _, b := range []string{"x\n", "thirteen rune", strings.Repeat("\n", 17), "\xff"} {
				unchanged(t, w, func() api.Errno { return w.Write(repo, a, b) })
				unchanged(t, w, func() api.Errno { return w.Write(repo, b, a) })
			}
			unchanged(t, w, func() api.Errno { return w.Erase(repo, a) })
			unchanged(t, w, func() api.Errno { return emptyWithError(t, w.Text, repo, a) })
			unchanged(t, w, func() api.Errno { return emptyWithError(t, w.Kept, repo, a) })
			for _, command := range []string{a, "show " + a, "record " + a, "record 0001 " + a, "record 0bad " + a, "unrecord " + a, "obliterate " + a, "swap " + a, "pull " + a, "pull 0 " + a, "pull 1 " + a, "pull 2 " + a} {
				unchanged(t, w, func() api.Errno { return emptyWithError(t, w.Do, repo, command) })
			}
		}
		names, err := w.Files(repo)
		if err != api.OK && len(names) != 0 {
			t.Errorf("P1: Files(%d) = %q with error %d", repo, names, err)
		}
	}
}

// A world that New refused is nil; the calls need not bear it, but an answer is better than a panic.
func TestP1NoWorld(t *testing.T) {
	w, _ := stitch.New(0)
	is(t, "P1: Write on no world", w.Write(0, "a", "x"), api.ErrRepo)
	is(t, "P1: Erase on no world", w.Erase(0, "a"), api.ErrRepo)
	_, err := w.Files(0)
	is(t, "P1: Files on no world", err, api.ErrRepo)
	_, err = w.Kept(0, "a")
	is(t, "P1: Kept on no world", err, api.ErrRepo)
	_, err = w.Do(0, "log")
	is(t, "P1: Do on no world", err, api.ErrRepo)
}

// unchanged holds all that can be seen behind a call that was refused against what was seen ahead of it.
func unchanged(t *testing.T, w *stitch.World, call func() api.Errno) {
	t.Helper()
	want := seen(t, w)
	err := call()
	if err == api.OK {
		return
	}
	if got := seen(t, w); !maps.Equal(got, want) {
		t.Errorf("P1: with error %d there is %q, was %q", err, got, want)
	}
}

// seen is all that a world tells, by the question.
func seen(t *testing.T, w *stitch.World) map[string]string {
	t.Helper()
	all := map[string]string{}
	for repo := range 3 {
		names, err := w.Files(repo)
		if err == api.ErrRepo {
			break
		}
		is(t, "P6: Files", err, api.OK)
		place := strconv.Itoa(repo) + " "
		for _, name := range names {
			text, err := w.Text(repo, name)
			is(t, "P6: Text", err, api.OK)
			all[place+"file "+name] = text
		}
		for _, name := range append(names, "a", "b", "c", "d", "e", "f", "ω") {
			if text, err := w.Kept(repo, name); err == api.OK {
				all[place+"kept "+name] = text
			}
		}
		for _, command := range []string{"new", "log", "order"} {
			all[place+command], err = w.Do(repo, command)
			is(t, "P10: "+command, err, api.OK)
		}
		for _, id := range strings.Fields(all[place+"log"]) {
			all[place+id], err = w.Do(repo, "show "+id)
			is(t, "P10: show", err, api.OK)
		}
	}
	return all
}

// emptyWithError passes over the errors that tell a text beside them (P12, P13, P14 and P16).
func emptyWithError(t *testing.T, call func(int, string) (string, api.Errno), repo int, text string) api.Errno {
	t.Helper()
	answer, err := call(repo, text)
	tells := err == api.OK || err == api.ErrNeeded || err == api.ErrDirty || err == api.ErrClash
	if !tells && answer != "" {
		t.Errorf("P1: (%d, %.50q) = %q with error %d", repo, text, answer, err)
	}
	return err
}
