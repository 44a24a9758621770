package verb_test

import (
	"fmt"
	"math"
	"slices"
	"strings"
	"testing"

	"jitney/api"
	"jitney/verb"
)

// same tells whether two commands are the same, lists that are nil and those that are empty too.
func same(a, b verb.Command) bool {
	return a.Kind == b.Kind && a.N == b.N && a.Steps == b.Steps && a.Clock == b.Clock && slices.Equal(a.Draws, b.Draws) && a.Text == b.Text
}

func parsed(t *testing.T, text string, want ...verb.Command) {
	t.Helper()
	if cs, at, e := verb.Parse(text); !slices.EqualFunc(cs, want, same) || at != 0 || e != api.OK {
		t.Errorf("%.200q: %+v %d %d", text, cs, at, e)
	}
}

func refused(t *testing.T, text string, line int, want api.Errno) {
	t.Helper()
	if cs, at, e := verb.Parse(text); len(cs) != 0 || at != line || e != want {
		t.Errorf("%.200q: %+v, line %d, %d, not line %d, %d", text, cs, at, e, line, want)
	}
}

func printed(t *testing.T, want string, cs ...verb.Command) {
	t.Helper()
	if text, e := verb.Print(cs); text != want || e != api.OK {
		t.Errorf("%+v: %.200q, %d", cs, text, e)
	}
}

func unprinted(t *testing.T, want api.Errno, cs ...verb.Command) {
	t.Helper()
	if text, e := verb.Print(cs); text != "" || e != want {
		t.Errorf("%.300s: %.200q, %d, not %d", fmt.Sprintf("%+v", cs), text, e, want)
	}
}

// load is a command that loads a text of so many lines.
func load(n int, text string) verb.Command {
	return verb.Command{Kind: verb.Load, N: n, Text: text}
}

func solve(k, steps int, draws ...int) verb.Command {
	return verb.Command{Kind: verb.Solve, N: k, Steps: steps, Draws: draws}
}

// one is the command of a kind that has one number, or none.
func one(kind, n int) verb.Command {
	if kind == verb.Tick {
		return verb.Command{Kind: verb.Tick, Clock: int64(n)}
	}
	return verb.Command{Kind: kind, N: n}
}

const dayText = "load 3\njitney 0 1\n\n add 1\nadd 1\ncancel 20\ntick -5\ntick 7\nsolve 8 0\nsolve 0 1000 3 1 4\nreport\ntickets\nload 0\nreport\n"

func ofDayText() []verb.Command {
	return []verb.Command{
		load(3, "jitney 0 1\n\n add 1\n"), one(verb.Add, 1), one(verb.Cancel, 20), one(verb.Tick, -5), one(verb.Tick, 7), solve(8, 0), solve(0, 1000, 3, 1, 4),
		one(verb.Report, 0), one(verb.Tickets, 0), load(0, ""), one(verb.Report, 0),
	}
}

// P27.1: the kinds, from 1 on, and their names.
func TestName(t *testing.T) {
	for i, name := range []string{"load", "add", "cancel", "tick", "solve", "report", "tickets"} {
		if kind := []int{verb.Load, verb.Add, verb.Cancel, verb.Tick, verb.Solve, verb.Report, verb.Tickets}[i]; kind != i+1 || verb.Name(kind) != name {
			t.Errorf("%s: %d, %q", name, kind, verb.Name(kind))
		}
	}
	for _, kind := range []int{0, -1, 8, 9, 1 << 40, math.MinInt, math.MaxInt} {
		if verb.Name(kind) != "" {
			t.Errorf("%d: %q", kind, verb.Name(kind))
		}
	}
}

// P27.1: the chapter's example.
func TestExample(t *testing.T) {
	parsed(t, "add 1\ntick 5\nsolve 8 0\n", one(verb.Add, 1), one(verb.Tick, 5), solve(8, 0))
}

// P27.1: texts by hand, those that aren't as they would be printed too, and numbers at their bounds.
func TestParse(t *testing.T) {
	parsed(t, "")
	parsed(t, dayText, ofDayText()...)
	parsed(t, "tick 0000000000007\ntick -0\ntick 00\ntick -0000000000007\n", one(verb.Tick, 7), one(verb.Tick, 0), one(verb.Tick, 0), one(verb.Tick, -7))
	parsed(t, "tick 1099511627776\ntick -1099511627776\n", one(verb.Tick, api.MaxTime), one(verb.Tick, -api.MaxTime))
	parsed(t, "add 0\nadd 1099511627776\ncancel 0\ncancel 1099511627776\n", one(verb.Add, 0), one(verb.Add, api.MaxTime), one(verb.Cancel, 0), one(verb.Cancel, api.MaxTime))
	parsed(t, "solve 0 0\nsolve 1099511627776 1099511627776 1099511627776 0 1099511627776\n", solve(0, 0), solve(api.MaxTime, api.MaxTime, api.MaxTime, 0, api.MaxTime))
	parsed(t, "report\nreport\n", one(verb.Report, 0), one(verb.Report, 0))
}

// P27.1: what is loaded is lines of whatever bytes, and as many as are said, commands or not.
func TestParseOfLoads(t *testing.T) {
	parsed(t, "load 0\n", load(0, ""))
	parsed(t, "load 0\nload 0\n", load(0, ""), load(0, ""))
	parsed(t, "load 1\n\n", load(1, "\n"))
	parsed(t, "load 2\n\n\nreport\n", load(2, "\n\n"), one(verb.Report, 0))
	parsed(t, "load 1\n \x00\xff\r\t\x7fé  \nreport\n", load(1, " \x00\xff\r\t\x7fé  \n"), one(verb.Report, 0))
	parsed(t, "load 1\nreport\nreport\n", load(1, "report\n"), one(verb.Report, 0))
	parsed(t, "load 2\nload 2\nx\nload 1\ny\n", load(2, "load 2\nx\n"), load(1, "y\n"))
	parsed(t, "load 1\nload 9\n", load(1, "load 9\n"))
	refused(t, "load 1\n", 1, api.ErrShort)
	refused(t, "load 2\nreport\n", 1, api.ErrShort)
	refused(t, "load 1099511627776\nx\n", 1, api.ErrShort)
	refused(t, "report\nadd 1\nload 3\n1\n2\n", 3, api.ErrShort)
	refused(t, "load 1\nload 1\nload 1\n", 3, api.ErrShort)
	refused(t, "load 2\nx\n\nsing\n", 4, api.ErrWord)
	refused(t, "load 0\nx\n", 2, api.ErrWord)
	refused(t, "load 1\nx\ny\n", 3, api.ErrWord)
	refused(t, "load 1\nx", 0, api.ErrShort)
}

// P27.1: the whole text.
func TestParseOfTheWhole(t *testing.T) {
	refused(t, "report", 0, api.ErrShort)
	refused(t, "x", 0, api.ErrShort)
	refused(t, "sing\nreport", 0, api.ErrShort)
	refused(t, "\n\n ", 0, api.ErrShort)
	refused(t, strings.Repeat("\n", api.MaxText), 1, api.ErrWord)
	refused(t, strings.Repeat("\n", api.MaxText+1), 0, api.ErrLong)
	refused(t, strings.Repeat("x", api.MaxText+1), 0, api.ErrLong)
	refused(t, strings.Repeat("report\n", api.MaxText/7+1), 0, api.ErrLong)
	parsed(t, strings.Repeat("report\n", api.MaxText/7), slices.Repeat([]verb.Command{one(verb.Report, 0)}, api.MaxText/7)...)
	rest := strings.Repeat("\n", api.MaxText-len("load 1048563\n"))
	parsed(t, "load 1048563\n"+rest, load(1048563, rest))
	refused(t, "load 1048564\n"+rest, 1, api.ErrShort)
	refused(t, "load 1048563\n\n"+rest, 0, api.ErrLong)
}

// P27.1: a line that isn't as said, ahead of others, behind others, and alone.
func TestParseOfWrongLines(t *testing.T) {
	for e, lines := range map[api.Errno][]string{
		api.ErrForm: {
			" ", "  ", "add  1", " add 1", "add 1 ", "add\t1", "add 1\t", "add 1\r", "report\r", "report ", " report", "report\x00", "add 1\x7f", "re\xffport", "tickéts", "sing  1", "sing ", "\x1f", "load 0 ", "solve  8 0", "solve 8 0  3",
			"load", "add", "cancel", "tick", "solve", "solve 8", "load 1 2", "add 1 2", "cancel 1 2", "tick 1 2", "report 1", "tickets 1", "report report", "add add add", "tickets 0 0 0",
			"add -1", "add 01", "add +1", "add 1.0", "add 1.", "add x", "add -0", "add 00", "add 1e3", "add 0x1", "add 1_0", "add 10000000000000", "add -", "add add", "cancel -1", "cancel 01", "cancel x", "load -1", "load 00", "load x", "load 0.0",
			"tick x", "tick 1.5", "tick 1.0", "tick 1.", "tick .5", "tick +1", "tick --1", "tick -", "tick 1-", "tick 00000000000000", "tick 10000000000000", "tick -10000000000000", "tick 1e3", "tick 0x1",
			"solve x 0", "solve -1 0", "solve 08 0", "solve 8 x", "solve 8 -1", "solve 8 00", "solve 8 0 x", "solve 8 0 -1", "solve 8 0 1 2 03", "solve 8 0 1.5", "solve 8.0 0", "solve 8 10000000000000",
		},
		api.ErrWord: {"", "sing", "sing 1", "Add 1", "ADD 1", "adds 1", "ad 1", "1", "add1", "loads 0", "-", "report,", "ticket", "tickets.", "solved 8 0", "0 add 1", "Report", "8 0", "~"},
		api.ErrRange: {
			"add 1099511627777", "add 9999999999999", "cancel 1099511627777", "load 1099511627777", "load 9999999999999", "tick 1099511627777", "tick -1099511627777", "tick 9999999999999", "tick -9999999999999",
			"solve 1099511627777 0", "solve 8 1099511627777", "solve 8 0 1099511627777", "solve 8 0 1 2 9999999999999",
		},
	} {
		for _, line := range lines {
			refused(t, line+"\n", 1, e)
			refused(t, line+"\nreport\n", 1, e)
			refused(t, "report\n"+line+"\n", 2, e)
			refused(t, "load 2\nsing\n \nadd 1\n"+line+"\nsing\nadd 1\n", 5, e)
			parsed(t, "load 1\n"+line+"\n", load(1, line+"\n"))
		}
	}
}

// P27.1: of a line words, name, how many, then word by word; of lines the first one.
func TestParseTellsTheFirst(t *testing.T) {
	const great = "1099511627777"
	refused(t, "sing "+great+" 1 2 3\n", 1, api.ErrWord)
	refused(t, "add "+great+" 1\n", 1, api.ErrForm)
	refused(t, "report "+great+"\n", 1, api.ErrForm)
	refused(t, "solve "+great+"\n", 1, api.ErrForm)
	refused(t, "solve x "+great+"\n", 1, api.ErrForm)
	refused(t, "solve "+great+" x\n", 1, api.ErrRange)
	refused(t, "solve 8 x "+great+"\n", 1, api.ErrForm)
	refused(t, "solve 8 "+great+" x\n", 1, api.ErrRange)
	refused(t, "solve 8 0 1 x "+great+"\n", 1, api.ErrForm)
	refused(t, "solve 8 0 1 "+great+" x\n", 1, api.ErrRange)
	refused(t, "load "+great+"\n", 1, api.ErrRange)
	refused(t, "load x\n", 1, api.ErrForm)
	refused(t, "load 2\nsing\n", 1, api.ErrShort)
	refused(t, "add x\nsing\n", 1, api.ErrForm)
	refused(t, "sing\nadd x\n", 1, api.ErrWord)
	refused(t, "add "+great+"\nload 5\n", 1, api.ErrRange)
	refused(t, "add 1\nadd "+great+"\nload 5\nsing\n", 2, api.ErrRange)
	refused(t, "add 1\nload 5\nsing\n\n", 2, api.ErrShort)
}

// P27.1: as many draws as may be, and more: ahead of what the numbers are, behind all else.
func TestParseOfDraws(t *testing.T) {
	draws := make([]int, api.MaxDraws)
	text := "solve 8 0"
	for i := range draws {
		draws[i] = i % 10
		text += " " + string(rune('0'+i%10))
	}
	parsed(t, text+"\nreport\n", solve(8, 0, draws...), one(verb.Report, 0))
	refused(t, text+" 1\n", 1, api.ErrMany)
	refused(t, text+" 1 2 3\n", 1, api.ErrMany)
	refused(t, "report\n"+text+" x\n", 2, api.ErrMany)
	refused(t, "report\n"+text+" 9999999999999\n", 2, api.ErrMany)
	refused(t, "solve x -1"+strings.Repeat(" y", api.MaxDraws+1)+"\n", 1, api.ErrMany)
	refused(t, "solve x -1"+strings.Repeat(" y", api.MaxDraws)+"\n", 1, api.ErrForm)
	refused(t, "solve 8 0"+strings.Repeat(" 9999999999999", api.MaxDraws)+"\n", 1, api.ErrRange)
	refused(t, text+" 1 \n", 1, api.ErrForm)
	for _, name := range []string{"load", "add", "cancel", "tick", "report", "tickets"} {
		refused(t, strings.Replace(text, "solve", name, 1)+" 1\n", 1, api.ErrForm)
	}
	refused(t, strings.Replace(text, "solve", "sing", 1)+" 1\n", 1, api.ErrWord)
}

// P27.1: commands by hand, and what doesn't belong to their kind isn't asked, and isn't told.
func TestPrint(t *testing.T) {
	printed(t, "")
	printed(t, dayText, ofDayText()...)
	printed(t, "tick 1099511627776\ntick -1099511627776\ntick 0\n", one(verb.Tick, api.MaxTime), one(verb.Tick, -api.MaxTime), one(verb.Tick, 0))
	printed(t, "add 1099511627776\ncancel 0\nsolve 1099511627776 1099511627776 1099511627776 0\n", one(verb.Add, api.MaxTime), one(verb.Cancel, 0), solve(api.MaxTime, api.MaxTime, api.MaxTime, 0))
	printed(t, "load 1\nno \x00\xff command\n", load(1, "no \x00\xff command\n"))
	all := verb.Command{N: -1, Steps: -1, Clock: math.MinInt64, Draws: slices.Repeat([]int{-1}, api.MaxDraws+1), Text: "x"}
	odd := func(kind int, turn func(c *verb.Command)) verb.Command {
		c := all
		c.Kind = kind
		turn(&c)
		return c
	}
	printed(t, "load 1\n\n", odd(verb.Load, func(c *verb.Command) { c.N, c.Text = 1, "\n" }))
	printed(t, "add 2\n", odd(verb.Add, func(c *verb.Command) { c.N = 2 }))
	printed(t, "cancel 3\n", odd(verb.Cancel, func(c *verb.Command) { c.N = 3 }))
	printed(t, "tick 4\n", odd(verb.Tick, func(c *verb.Command) { c.Clock = 4 }))
	printed(t, "solve 5 6 7\n", odd(verb.Solve, func(c *verb.Command) { c.N, c.Steps, c.Draws = 5, 6, []int{7} }))
	printed(t, "report\n", odd(verb.Report, func(c *verb.Command) {}))
	printed(t, "tickets\n", odd(verb.Tickets, func(c *verb.Command) {}))
}

// wrong is commands that have no text, each with one error alone.
func wrong() map[api.Errno][]verb.Command {
	short, long := strings.Repeat("\n", api.MaxText), strings.Repeat("\n", api.MaxText+1)
	return map[api.Errno][]verb.Command{
		api.ErrWord: {{}, {Kind: -1}, {Kind: 8}, {Kind: math.MinInt}, {Kind: math.MaxInt}, {Kind: 0, N: 1, Text: "x\n"}},
		api.ErrRange: {
			one(verb.Add, -1), one(verb.Add, api.MaxTime+1), one(verb.Add, math.MinInt), one(verb.Add, math.MaxInt), one(verb.Cancel, -1), one(verb.Cancel, api.MaxTime+1), load(-1, ""), load(api.MaxTime+1, ""), load(math.MinInt, "x\n"),
			one(verb.Tick, api.MaxTime+1), one(verb.Tick, -api.MaxTime-1), {Kind: verb.Tick, Clock: math.MinInt64}, {Kind: verb.Tick, Clock: math.MaxInt64},
			solve(-1, 0), solve(api.MaxTime+1, 0), solve(8, -1), solve(8, api.MaxTime+1), solve(8, 0, -1), solve(8, 0, api.MaxTime+1), solve(8, 0, 1, 2, math.MinInt), solve(8, 0, math.MaxInt, 1, 2),
		},
		api.ErrMany: {solve(8, 0, make([]int, api.MaxDraws+1)...), solve(0, 0, make([]int, 3*api.MaxDraws)...)},
		api.ErrForm: {load(0, "x"), load(1, "x"), load(2, "x\n"), load(0, "x\n"), load(1, ""), load(1, "x\ny\n"), load(1, "x\ny"), load(2, "x\ny"), load(api.MaxTime, ""), load(0, "\n"), load(api.MaxText+1, long), load(api.MaxText-1, short)},
	}
}

// P27.1: what has no text, ahead of others, behind others, and the first of two.
func TestPrintOfWrongCommands(t *testing.T) {
	right := ofDayText()
	for e, cs := range wrong() {
		for _, c := range cs {
			unprinted(t, e, c)
			unprinted(t, e, c, one(verb.Report, 0))
			unprinted(t, e, append(slices.Clone(right), c)...)
			for _, others := range wrong() {
				for _, other := range others {
					unprinted(t, e, one(verb.Add, 1), c, other)
				}
			}
		}
	}
	text := strings.Repeat("\n", api.MaxText)
	printed(t, "load 1048576\n"+text, load(api.MaxText, text))
}

// P27.1: of one command the errors in their order.
func TestPrintTellsTheFirst(t *testing.T) {
	many := make([]int, api.MaxDraws+1)
	unprinted(t, api.ErrMany, solve(8, 0, many...))
	unprinted(t, api.ErrRange, solve(-1, 0, many...))
	unprinted(t, api.ErrRange, solve(8, -1, many...))
	many[api.MaxDraws] = -1
	unprinted(t, api.ErrRange, solve(8, 0, many...))
	unprinted(t, api.ErrRange, load(-1, "x"))
	unprinted(t, api.ErrRange, load(api.MaxTime+1, "x"))
	unprinted(t, api.ErrWord, verb.Command{Kind: 8, N: -1, Steps: -1, Clock: math.MinInt64, Draws: many, Text: "x"})
	unprinted(t, api.ErrForm, verb.Command{Kind: verb.Load, N: 1, Steps: -1, Clock: math.MinInt64, Draws: many, Text: "x"})
}
