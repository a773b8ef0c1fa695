// Package diff finds what changed between two lists of lines.
package diff

import "slices"

// Gap is what changed between two lines that go on living, or a list's edge: the old lines From up to To are killed, and Lines come.
type Gap struct {
	From, To int
	Lines    []string
}

// Gaps tells what changed from the old lines to the new ones, in order.
func Gaps(old, new []string) []Gap {
	p := pair{old, new, commonParts(old, new)}
	var gaps []Gap
	i, j := 0, 0
	for {
		k, l := p.nextLiving(i, j)
		if k > i || l > j {
			gaps = append(gaps, Gap{From: i, To: k, Lines: slices.Clone(new[j:l])})
		}
		if k == len(old) {
			return gaps
		}
		i, j = k+1, l+1
	}
}

// pair is two lists, and how much the rest of each has in common with the rest of the other.
type pair struct {
	old, new []string
	common   [][]int
}

// nextLiving goes on from the places i and j to the next line that goes on living; to both ends, if there is none.
func (p pair) nextLiving(i, j int) (int, int) {
	for i < len(p.old) || j < len(p.new) {
		if i < len(p.old) && j < len(p.new) && p.old[i] == p.new[j] {
			return i, j
		}
		if p.kills(i, j) {
			i++
		} else {
			j++
		}
	}
	return i, j
}

// kills tells whether the old line at i is killed; else the new one at j comes.
func (p pair) kills(i, j int) bool {
	if i == len(p.old) || j == len(p.new) {
		return i < len(p.old)
	}
	return p.common[i+1][j] >= p.common[i][j+1]
}

// commonParts tells, for all places i and j, how many lines the old ones from i on and the new ones from j on have in common, in this order.
func commonParts(old, new []string) [][]int {
	common := make([][]int, len(old)+1)
	for i := range common {
		common[i] = make([]int, len(new)+1)
	}
	for i := len(old) - 1; i >= 0; i-- {
		for j := len(new) - 1; j >= 0; j-- {
			if old[i] == new[j] {
				common[i][j] = common[i+1][j+1] + 1
			} else {
				common[i][j] = max(common[i+1][j], common[i][j+1])
			}
		}
	}
	return common
}
