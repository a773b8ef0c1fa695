// Package parse reads what comes in as text: the lines of a file, names, and commands.
package parse

import (
	"slices"
	"strings"

	"stitch/api"
)

// Lines cuts a text into its lines, each with its newline; false, if the text is none that may be written.
func Lines(text string) ([]string, bool) {
	// Asked first: nothing is made of a text that is far too long.
	if len(text) > api.MaxText {
		return nil, false
	}
	lines := Cut(text)
	if len(lines) > api.MaxLines || slices.ContainsFunc(lines, isLong) {
		return nil, false
	}
	return lines, true
}

// Cut cuts a text of any length into its lines: what is kept may be longer than what may be written.
func Cut(text string) []string {
	var lines []string
	start := 0
	for i, r := range text {
		if r == '\n' {
			lines = append(lines, text[start:i+1])
			start = i + 1
		}
	}
	if start < len(text) {
		lines = append(lines, text[start:])
	}
	return lines
}

func isLong(line string) bool {
	return hasOver(strings.TrimSuffix(line, "\n"), api.MaxLine)
}

// hasOver tells whether s has more than most runes. It stops at the first one too many, so that the length of s does not matter.
func hasOver(s string, most int) bool {
	runes := 0
	for range s {
		runes++
		if runes > most {
			return true
		}
	}
	return false
}
