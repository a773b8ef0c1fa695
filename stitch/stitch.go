// Package stitch: histories of files in patches that change places: see DOC.md.
package stitch

import (
	"stitch/api"
	"stitch/parse"
	"stitch/patch"
)

// Lines cuts a text into its lines (P3).
func Lines(text string) ([]string, api.Errno) {
	lines, ok := parse.Lines(text)
	if !ok {
		return nil, api.ErrText
	}
	return lines, api.OK
}

// Words reads a command: its words (P4).
func Words(command string) ([]string, api.Errno) {
	words, ok := parse.Words(command)
	if !ok {
		return nil, api.ErrCommand
	}
	return words, api.OK
}

// World is some repositories.
type World struct {
	repos []repository
	// given has the id of every patch that was ever recorded, wherever that may be now.
	given map[patch.Id]struct{}
}

// New makes a world of n repositories (P5).
func New(n int) (*World, api.Errno) {
	if n < 1 || n > api.MaxRepos {
		return nil, api.ErrCount
	}
	w := &World{given: map[patch.Id]struct{}{}}
	for range n {
		w.repos = append(w.repos, newRepository())
	}
	return w, api.OK
}

// has tells whether there is such a repository; a world that New refused has none.
func (w *World) has(repo int) bool {
	return w != nil && 0 <= repo && repo < len(w.repos)
}

// Write lays a text down as a file (P6).
func (w *World) Write(repo int, name string, text string) api.Errno {
	if !w.has(repo) {
		return api.ErrRepo
	}
	return w.repos[repo].write(name, text)
}

// Erase takes a file away (P6).
func (w *World) Erase(repo int, name string) api.Errno {
	if !w.has(repo) {
		return api.ErrRepo
	}
	return w.repos[repo].erase(name)
}

// Files tells the names of the files that there are (P6).
func (w *World) Files(repo int) ([]string, api.Errno) {
	if !w.has(repo) {
		return nil, api.ErrRepo
	}
	return w.repos[repo].names(), api.OK
}

// Text tells a file's text (P6).
func (w *World) Text(repo int, name string) (string, api.Errno) {
	if !w.has(repo) {
		return "", api.ErrRepo
	}
	return w.repos[repo].text(name)
}

// Kept tells a file's text as the patches make it (P8).
func (w *World) Kept(repo int, name string) (string, api.Errno) {
	if !w.has(repo) {
		return "", api.ErrRepo
	}
	return w.repos[repo].keptText(name)
}

// Do carries a command out (P9 to P17).
func (w *World) Do(repo int, command string) (string, api.Errno) {
	if !w.has(repo) {
		return "", api.ErrRepo
	}
	words, ok := parse.Words(command)
	if !ok {
		return "", api.ErrCommand
	}
	return w.carryOut(&w.repos[repo], words)
}
