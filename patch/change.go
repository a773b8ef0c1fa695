package patch

import (
	"slices"
	"strings"
)

// latest is the last file that there was of a name, as some patches have left it; the zero value, if there was none. The patch that added it tells it from the other files of this name.
type latest struct {
	by    Id
	alive bool
	row   row
}

// change is what a patch does to the file of one name.
type change interface {
	// fits, apply and tell take that file as it is right ahead of the patch; the change must fit it to be applied or told.
	fits(ahead latest) bool
	apply(ahead latest) latest
	tell(name string, ahead latest) string
	// names tells the file and the cells that the change names, each alive or dead as it names it.
	names() row
	// kills tells the file and the cells that it kills, dead.
	kills() row
}

// addition names the last file of this name, by the patch that added it.
type addition struct {
	by   Id
	last Id
	row  row
}

func (a addition) apply(latest) latest {
	return latest{by: a.by, alive: true, row: a.row}
}

func (a addition) tell(name string, _ latest) string {
	return "add " + name + "\n" + tellLines("+", a.row)
}

func (a addition) names() row {
	return wholeFile(a.last, false)
}

func (a addition) kills() row {
	return nil
}

type removal struct {
	file Id
	row  row
}

func (r removal) apply(latest) latest {
	return latest{by: r.file, row: r.row.dead()}
}

func (r removal) tell(name string, _ latest) string {
	return "remove " + name + "\n" + tellLines("-", r.row)
}

func (r removal) names() row {
	return slices.Concat(wholeFile(r.file, true), r.row)
}

func (r removal) kills() row {
	return r.names().killed()
}

type alteration struct {
	file  Id
	hunks []hunk
}

func (a alteration) apply(ahead latest) latest {
	framed := ahead.row.framed()
	for _, h := range a.hunks {
		framed = h.apply(framed)
	}
	return latest{by: a.file, alive: true, row: framed.unframed()}
}

func (a alteration) tell(name string, ahead latest) string {
	told := "alter " + name + "\n"
	framed := ahead.row.framed()
	for _, h := range a.hunks {
		told += h.tell(framed)
	}
	return told
}

func (a alteration) names() row {
	named := wholeFile(a.file, true)
	for _, h := range a.hunks {
		named = append(named, h.named...)
	}
	return named
}

func (a alteration) kills() row {
	var killed row
	for _, h := range a.hunks {
		killed = append(killed, h.between().killed()...)
	}
	return killed
}

// tellLines tells the living cells of a row, each behind the mark.
func tellLines(mark string, r row) string {
	var told strings.Builder
	for _, line := range r.lines() {
		told.WriteString(mark + line)
		if !strings.HasSuffix(line, "\n") {
			told.WriteString("$\n")
		}
	}
	return told.String()
}
