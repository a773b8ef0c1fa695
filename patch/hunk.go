package patch

import (
	"slices"
	"strconv"
)

// hunk is a change between two living cells of a framed row: the first and the last that it names.
type hunk struct {
	named  row
	brings row
}

// place tells where in the framed row the first cell stands that the hunk names.
func (h hunk) place(framed row) int {
	return slices.Index(framed, h.named[0])
}

// between is what the hunk names, without the two cells that go on living.
func (h hunk) between() row {
	return h.named.unframed()
}

func (h hunk) apply(framed row) row {
	first := h.place(framed)
	last := first + len(h.named) - 1
	return slices.Concat(framed[:first+1], h.between().dead(), h.brings, framed[last:])
}

// tell counts in the row as it is ahead of the whole patch. The beginning is a living cell there, so the count is from 1.
func (h hunk) tell(framed row) string {
	ahead := framed[:h.place(framed)+1]
	at := "@" + strconv.Itoa(len(ahead.living())) + "\n"
	return at + tellLines("-", h.between()) + tellLines("+", h.brings)
}
