package verb

import (
	"slices"
	"strings"

	"jitney/api"
	"jitney/deci"
)

// check tells whether a command has a text, or the first error that it has.
func check(c Command) api.Errno {
	least := 0
	if c.Kind == Tick {
		least = -api.MaxTime
	}
	beyond := func(n int) bool { return n < least || n > api.MaxTime }
	switch {
	case Name(c.Kind) == "":
		return api.ErrWord
	case slices.ContainsFunc(numbers(c), beyond):
		return api.ErrRange
	case c.Kind == Solve && len(c.Draws) > api.MaxDraws:
		return api.ErrMany
	case c.Kind == Load && !isLines(c.Text, c.N):
		return api.ErrForm
	}
	return api.OK
}

// isLines tells whether a text is so many lines.
func isLines(text string, count int) bool {
	lines, e := deci.Lines(text)
	return e == api.OK && len(lines) == count
}

// numbers is those that belong to a command's kind, as they stand in its line.
func numbers(c Command) []int {
	switch c.Kind {
	case Load, Add, Cancel:
		return []int{c.N}
	case Tick:
		return []int{int(c.Clock)}
	case Solve:
		return append([]int{c.N, c.Steps}, c.Draws...)
	}
	return nil
}

// write writes a command that has a text.
func write(text *strings.Builder, c Command) {
	text.WriteString(Name(c.Kind))
	for _, n := range numbers(c) {
		text.WriteByte(' ')
		text.WriteString(deci.Write(int64(n), 0))
	}
	text.WriteByte('\n')
	if c.Kind == Load {
		text.WriteString(c.Text)
	}
}
