package verb

import (
	"strings"

	"jitney/api"
	"jitney/deci"
)

// counts is how many numbers stand behind each kind's name; behind Solve's there may be draws, too.
var counts = [...]int{Load: 1, Add: 1, Cancel: 1, Tick: 1, Solve: 2, Report: 0, Tickets: 0}

// first is the command with which lines begin, and how many of them are its.
func first(lines []string) (c Command, taken int, e api.Errno) {
	c, e = read(lines[0])
	if e != api.OK || c.Kind != Load {
		return c, 1, e
	}
	rest := lines[1:]
	if c.N > len(rest) {
		return Command{}, 0, api.ErrShort
	}
	c.Text = joined(rest[:c.N])
	return c, 1 + c.N, api.OK
}

// joined is the text of lines.
func joined(lines []string) string {
	var text strings.Builder
	for _, line := range lines {
		text.WriteString(line)
		text.WriteByte('\n')
	}
	return text.String()
}

// read is the command of a line, or the first error that the line has.
func read(line string) (Command, api.Errno) {
	words, e := deci.Words(line)
	if e != api.OK {
		return Command{}, e
	}
	if len(words) == 0 {
		return Command{}, api.ErrWord
	}
	kind := kindOf(words[0])
	if kind == 0 {
		return Command{}, api.ErrWord
	}
	behind := words[1:]
	if e := checkCount(kind, len(behind)); e != api.OK {
		return Command{}, e
	}
	return readNumbers(kind, behind)
}

// kindOf is the kind that has a name, which isn't empty; 0 of another word.
func kindOf(word string) int {
	for kind, name := range names {
		if name == word {
			return kind
		}
	}
	return 0
}

// checkCount tells whether so many numbers may stand behind a kind's name, or why not.
func checkCount(kind, count int) api.Errno {
	draws := count - counts[kind]
	switch {
	case draws < 0 || draws > 0 && kind != Solve:
		return api.ErrForm
	case draws > api.MaxDraws:
		return api.ErrMany
	}
	return api.OK
}

// readNumbers is the command of a kind, with numbers as many as it may have, or the error of the first one that has one.
func readNumbers(kind int, words []string) (Command, api.Errno) {
	c := Command{Kind: kind}
	var e api.Errno
	switch kind {
	case Load, Add, Cancel:
		c.N, e = deci.Whole(words[0])
	case Tick:
		c.Clock, e = deci.Read(words[0], 0)
	case Solve:
		var ns []int
		if ns, e = wholes(words); e == api.OK {
			c.N, c.Steps, c.Draws = ns[0], ns[1], ns[2:]
		}
	}
	return c, e
}

func wholes(words []string) ([]int, api.Errno) {
	ns := make([]int, len(words))
	for i, word := range words {
		n, e := deci.Whole(word)
		if e != api.OK {
			return nil, e
		}
		ns[i] = n
	}
	return ns, api.OK
}
