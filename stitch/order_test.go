package stitch_test

import (
	"fmt"
	"strings"
	"testing"

	"stitch/api"
)

func TestP15NoPatches(t *testing.T) {
	w := world(t, 2)
	told(t, w, 0, "order", "")
	writes(t, w, 0, "a", "")
	does(t, w, 0, "record 0001")
	told(t, w, 0, "order", "0001\n")
	told(t, w, 1, "order", "")
	does(t, w, 0, "unrecord 0001")
	told(t, w, 0, "order", "")
	refused(t, w, 2, "order", api.ErrRepo)
	refused(t, w, 0, "order 0001", api.ErrCommand)
}

// Patches that need nobody are told by their ids; the list stays as it is.
func TestP15ById(t *testing.T) {
	w := world(t, 1)
	ids := strings.Fields("ffff 0a00 9999 000a 0000 a000 0009 00a0")
	for i, id := range ids {
		name := string(rune('a' + i))
		writes(t, w, 0, name, "")
		does(t, w, 0, "record "+id+" "+name)
		erases(t, w, 0, name)
	}
	for range 2 {
		told(t, w, 0, "log", strings.Join(ids, "\n")+"\n")
		told(t, w, 0, "order", "0000\n0009\n000a\n00a0\n0a00\n9999\na000\nffff\n")
	}
}

// A patch with a small id waits for those with great ones that it needs, and no longer.
func TestP15NeedsGoFirst(t *testing.T) {
	w := world(t, 1)
	for _, step := range []struct{ id, name, text string }{
		{"000f", "a", "1\n2\n3\n"},
		{"0009", "a", "1\n2\n3\n4\n"},
		{"0008", "a", "1\n2\n3\n4\n5\n"},
		{"0007", "b", "1\n"},
		{"0001", "a", "0\n1\n2\n3\n4\n5\n"},
		{"000e", "b", "0\n1\n"},
		{"0000", "b", "1\n"},
		{"0006", "c", ""},
	} {
		writes(t, w, 0, step.name, step.text)
		does(t, w, 0, "record "+step.id)
	}
	told(t, w, 0, "order", "0006\n0007\n000e\n0000\n000f\n0001\n0009\n0008\n")
	does(t, w, 0, "unrecord 0000")
	told(t, w, 0, "order", "0006\n0007\n000e\n000f\n0001\n0009\n0008\n")
	does(t, w, 0, "swap 0001")
	does(t, w, 0, "swap 0001")
	told(t, w, 0, "log", "000f\n0009\n0001\n0008\n0007\n000e\n0006\n")
	told(t, w, 0, "order", "0006\n0007\n000e\n000f\n0001\n0009\n0008\n")
}

// A patch that needs several waits for the last of them.
func TestP15SeveralNeeds(t *testing.T) {
	w := world(t, 1)
	for _, step := range []struct{ id, name string }{{"00b0", "a"}, {"00a0", "b"}, {"00c0", "c"}} {
		writes(t, w, 0, step.name, "")
		does(t, w, 0, "record "+step.id)
	}
	for _, name := range []string{"a", "b", "c"} {
		writes(t, w, 0, name, "x\n")
	}
	does(t, w, 0, "record 0001")
	for _, name := range []string{"a", "b", "c"} {
		erases(t, w, 0, name)
	}
	does(t, w, 0, "record 0000")
	writes(t, w, 0, "d", "")
	does(t, w, 0, "record 00bf")
	told(t, w, 0, "order", "00a0\n00b0\n00bf\n00c0\n0001\n0000\n")
}

// As many patches as a world may have, in a long row and each for itself.
func TestP15ManyPatches(t *testing.T) {
	w := world(t, 1)
	chain := ""
	for i := range 40 {
		id := fmt.Sprintf("%04x", 0xffff-i*0x111)
		writes(t, w, 0, "a", strings.Repeat(fmt.Sprintf("%d\n", i), 16))
		does(t, w, 0, "record "+id)
		chain += id + "\n"
	}
	told(t, w, 0, "order", chain)
	w = world(t, 1)
	want := make([]string, 40)
	for i := range 40 {
		place := i * 7 % 40
		name := string(rune('a'+i%20)) + string(rune('a'+i/20))
		writes(t, w, 0, name, "")
		want[place] = fmt.Sprintf("%04x\n", place*0x333)
		does(t, w, 0, "record "+strings.TrimSpace(want[place])+" "+name)
		erases(t, w, 0, name)
	}
	told(t, w, 0, "order", strings.Join(want, ""))
}

// `swap` can bring a repository to the order that is told; all that is kept stays, and the order then is the list.
func TestP18SwapBringsTheOrder(t *testing.T) {
	moved := 0
	for seed := range 40 {
		m := history(t, seed)
		before := seen(t, m.w)
		order := strings.Fields(before["0 order"])
		for to, id := range order {
			for m.repos[0].place(id) > to {
				if !m.do(0, "swap "+id) {
					t.Fatalf("P18: %q cannot be reached from %q", order, before["0 log"])
				}
				moved++
			}
		}
		behind := seen(t, m.w)
		if behind["0 log"] != before["0 order"] || behind["0 order"] != before["0 order"] {
			t.Errorf("P18: the list is %q, the order %q, was %q", behind["0 log"], behind["0 order"], before["0 order"])
		}
		for what, text := range before {
			if strings.HasPrefix(what, "0 kept ") && behind[what] != text {
				t.Errorf("P18: %s is %q, was %q", what, behind[what], text)
			}
		}
	}
	if moved < 100 {
		t.Errorf("only %d swaps", moved)
	}
}
