package patch

import (
	"slices"
	"strings"
)

// cell is a line that a patch brought. Its number tells it from the others of that patch: lines of equal text are different cells.
type cell struct {
	by     Id
	number int
	line   string
}

// spot is a cell as it is in a row, or as a patch names it: alive or dead.
type spot struct {
	cell
	alive bool
}

type row []spot

// In a framed row the beginning and the end of the file are cells too, so that the hunks there are like all others. So is the whole file, where a change names it: it is brought, named and killed as cells are.
const (
	beginning = -1
	end       = -2
	whole     = -3
)

func wholeFile(file Id, alive bool) row {
	return row{spot{cell{by: file, number: whole}, alive}}
}

func (r row) framed() row {
	return slices.Concat(edge(beginning), r, edge(end))
}

func edge(number int) row {
	return row{spot{cell{number: number}, true}}
}

func (r row) unframed() row {
	return r[1 : len(r)-1]
}

// living tells the places of the cells that are alive.
func (r row) living() []int {
	var places []int
	for i, s := range r {
		if s.alive {
			places = append(places, i)
		}
	}
	return places
}

// lines tells the lines of the cells that are alive.
func (r row) lines() []string {
	var lines []string
	for _, i := range r.living() {
		lines = append(lines, r[i].line)
	}
	return lines
}

func (r row) text() string {
	return strings.Join(r.lines(), "")
}

// dead is a new row of the same cells, all of them dead.
func (r row) dead() row {
	dead := slices.Clone(r)
	for i := range dead {
		dead[i].alive = false
	}
	return dead
}

// killed is a new row of those cells that are alive, as they are once they are killed.
func (r row) killed() row {
	return slices.DeleteFunc(slices.Clone(r), func(s spot) bool { return !s.alive }).dead()
}
