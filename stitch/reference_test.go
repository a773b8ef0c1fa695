package stitch_test

import (
	"maps"
	"slices"
	"strconv"
	"strings"
)

// What a patch must be told like, worked out anew from the texts alone, as slowly and plainly as the document says it.

func linesOf(text string) []string {
	return slices.DeleteFunc(strings.SplitAfter(text, "\n"), func(s string) bool { return s == "" })
}

type rest struct{ o, n int }

// common is the greatest number of lines that the two lists have in common in this order.
func common(o, n []string, known map[rest]int) int {
	if len(o) == 0 || len(n) == 0 {
		return 0
	}
	key := rest{len(o), len(n)}
	if best, ok := known[key]; ok {
		return best
	}
	best := max(common(o[1:], n, known), common(o, n[1:], known))
	if o[0] == n[0] {
		best = max(best, 1+common(o[1:], n[1:], known))
	}
	known[key] = best
	return best
}

// gap is what goes and what comes between two lines that go on living: the old lines of the places from up to, but not, to.
type gap struct {
	from, to int
	comes    []string
}

func gapsOf(o, n []string) []gap {
	known := map[rest]int{}
	var gaps []gap
	now := gap{}
	i, j := 0, 0
	for i < len(o) || j < len(n) {
		switch {
		case i < len(o) && j < len(n) && o[i] == n[j]:
			gaps = append(gaps, now)
			i, j = i+1, j+1
			now = gap{from: i, to: i}
		case i < len(o) && (j == len(n) || common(o[i+1:], n[j:], known) >= common(o[i:], n[j+1:], known)):
			i++
			now.to = i
		default:
			now.comes = append(now.comes, n[j])
			j++
		}
	}
	return slices.DeleteFunc(append(gaps, now), func(g gap) bool { return g.from == g.to && len(g.comes) == 0 })
}

func alterTold(before, behind string) string {
	o := linesOf(before)
	told := ""
	for _, g := range gapsOf(o, linesOf(behind)) {
		told += hunkTold(g.from+1, o[g.from:g.to], g.comes)
	}
	return told
}

func hunkTold(at int, kills, comes []string) string {
	return "@" + strconv.Itoa(at) + "\n" + listTold("-", kills) + listTold("+", comes)
}

func lineTold(mark, line string) string {
	if strings.HasSuffix(line, "\n") {
		return mark + line
	}
	return mark + line + "$\n"
}

func linesTold(mark, text string) string {
	return listTold(mark, linesOf(text))
}

func listTold(mark string, lines []string) string {
	told := ""
	for _, line := range lines {
		told += lineTold(mark, line)
	}
	return told
}

// patchTold is the patch that turns the kept texts into the written ones, of these names.
func patchTold(kept, written map[string]string, names []string) string {
	told := ""
	for _, name := range slices.Compact(slices.Sorted(slices.Values(names))) {
		before, old := kept[name]
		behind, now := written[name]
		switch {
		case !old && now:
			told += "add " + name + "\n" + linesTold("+", behind)
		case old && !now:
			told += "remove " + name + "\n" + linesTold("-", before)
		case old && now && before != behind:
			told += "alter " + name + "\n" + alterTold(before, behind)
		}
	}
	return told
}

func namesOf(kept, written map[string]string) []string {
	return slices.AppendSeq(slices.Collect(maps.Keys(kept)), maps.Keys(written))
}
