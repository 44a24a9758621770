package ticket

import (
	"cmp"
	"strings"

	"jitney/api"
	"jitney/deci"
)

// unserved is the word behind the ID of a request that isn't served.
const unserved = "unserved"

// Print is lines' text.
func Print(lines []Line) string {
	var text strings.Builder
	for _, l := range lines {
		write(&text, l)
	}
	return text.String()
}

// Parse is the lines of a text; or an error, and the line that has it (0: the whole text).
func Parse(text string) ([]Line, int, api.Errno) {
	rows, e := deci.Lines(text)
	if e != api.OK {
		return nil, 0, e
	}
	var lines []Line
	for i, row := range rows {
		l, e := read(row)
		if e == api.OK && i > 0 && l.ID <= lines[i-1].ID {
			e = api.ErrTwice
		}
		if e != api.OK {
			return nil, i + 1, e
		}
		lines = append(lines, l)
	}
	return lines, 0, api.OK
}

func write(text *strings.Builder, l Line) {
	text.WriteString(deci.Write(int64(l.ID), 0))
	if l.Served {
		for _, n := range []int64{int64(l.Car), l.Pick, l.Drop, l.Ride} {
			text.WriteByte(' ')
			text.WriteString(deci.Write(n, 0))
		}
	} else {
		text.WriteString(" " + unserved)
	}
	text.WriteByte('\n')
}

// read is the line of a text's row, or the first error that its words have.
func read(row string) (Line, api.Errno) {
	words, e := deci.Words(row)
	switch {
	case e != api.OK:
		return Line{}, e
	case len(words) == 2 && words[1] == unserved:
		id, e := deci.Whole(words[0])
		return Line{ID: id}, e
	case len(words) == 5:
		return readServed(words)
	}
	return Line{}, api.ErrForm
}

// readServed is the line of five words, or the first error that they have.
func readServed(words []string) (Line, api.Errno) {
	l := Line{Served: true}
	var e [5]api.Errno
	l.ID, e[0] = deci.Whole(words[0])
	l.Car, e[1] = deci.Whole(words[1])
	l.Pick, e[2] = deci.Read(words[2], 0)
	l.Drop, e[3] = deci.Read(words[3], 0)
	l.Ride, e[4] = deci.Read(words[4], 0)
	return l, cmp.Or(e[:]...)
}
