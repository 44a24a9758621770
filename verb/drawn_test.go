package verb_test

import (
	"fmt"
	"math"
	"math/rand/v2"
	"regexp"
	"slices"
	"strconv"
	"strings"
	"testing"

	"jitney/api"
	"jitney/verb"
)

var (
	wordsForm = regexp.MustCompile(`^([!-~]+( [!-~]+)*)?$`)
	wholeForm = regexp.MustCompile(`^(0|[1-9][0-9]{0,12})$`)
	clockForm = regexp.MustCompile(`^-?[0-9]{1,13}$`)
)

// number is what a word says, or its error.
func number(form *regexp.Regexp, word string) (int, api.Errno) {
	if !form.MatchString(word) {
		return 0, api.ErrForm
	}
	n, err := strconv.Atoi(word)
	if err != nil || n < -1<<40 || n > 1<<40 {
		return 0, api.ErrRange
	}
	return n, api.OK
}

// wantedOfLine is the command of a line but for what is loaded, by what the chapter says of lines.
func wantedOfLine(line string) (verb.Command, api.Errno) {
	if !wordsForm.MatchString(line) {
		return verb.Command{}, api.ErrForm
	}
	name, rest, _ := strings.Cut(line, " ")
	words := strings.Fields(rest)
	kind := 1 + slices.Index([]string{"load", "add", "cancel", "tick", "solve", "report", "tickets"}, name)
	switch many := len(words); {
	case kind == 0:
		return verb.Command{}, api.ErrWord
	case kind <= 4 && many != 1 || kind == 5 && many < 2 || kind >= 6 && many != 0:
		return verb.Command{}, api.ErrForm
	case many > 2+4096:
		return verb.Command{}, api.ErrMany
	}
	form := wholeForm
	if kind == 4 {
		form = clockForm
	}
	var ns []int
	for _, word := range words {
		n, e := number(form, word)
		if e != api.OK {
			return verb.Command{}, e
		}
		ns = append(ns, n)
	}
	switch kind {
	case 4:
		return verb.Command{Kind: kind, Clock: int64(ns[0])}, api.OK
	case 5:
		return verb.Command{Kind: kind, N: ns[0], Steps: ns[1], Draws: ns[2:]}, api.OK
	case 6, 7:
		return verb.Command{Kind: kind}, api.OK
	}
	return verb.Command{Kind: kind, N: ns[0]}, api.OK
}

// wanted is what Parse must answer, by what the chapter says of texts.
func wanted(text string) ([]verb.Command, int, api.Errno) {
	if len(text) > 1<<20 {
		return nil, 0, api.ErrLong
	}
	if text != "" && text[len(text)-1] != '\n' {
		return nil, 0, api.ErrShort
	}
	var cs []verb.Command
	lines := strings.SplitAfter(text, "\n")
	lines = lines[:len(lines)-1]
	for i := 0; i < len(lines); i++ {
		c, e := wantedOfLine(lines[i][:len(lines[i])-1])
		if e == api.OK && c.Kind == 1 && i+c.N >= len(lines) {
			e = api.ErrShort
		}
		if e != api.OK {
			return nil, i + 1, e
		}
		if c.Kind == 1 {
			c.Text = strings.Join(lines[i+1:i+1+c.N], "")
			i += c.N
		}
		cs = append(cs, c)
	}
	return cs, 0, api.OK
}

// drawnCommand is a command that has a text, with nothing that doesn't belong to its kind.
func drawnCommand(draws *rand.Rand) verb.Command {
	whole := func() int { return draws.IntN(1 + 1<<40>>(4*draws.IntN(11))) }
	switch kind := 1 + draws.IntN(7); kind {
	case verb.Load:
		n, text := draws.IntN(4), ""
		for range n {
			text += []string{"", " ", "x", "add 1", "load 2", "jitney 0 1 0 spots", "\xff\x00\r", "tick -1 "}[draws.IntN(8)] + "\n"
		}
		return load(n, text)
	case verb.Tick:
		return one(verb.Tick, whole()-whole())
	case verb.Solve:
		c := solve(whole(), whole())
		for range draws.IntN(4) {
			c.Draws = append(c.Draws, whole())
		}
		return c
	case verb.Report, verb.Tickets:
		return one(kind, 0)
	default:
		return one(kind, whole())
	}
}

func drawnCommands(draws *rand.Rand) []verb.Command {
	var cs []verb.Command
	for range draws.IntN(6) {
		cs = append(cs, drawnCommand(draws))
	}
	return cs
}

// P27.2, P5: what is printed is parsed as it.
func TestCommandsAreParsedAsTheyArePrinted(t *testing.T) {
	draws := rand.New(rand.NewPCG(1, 2))
	for range 20000 {
		cs := drawnCommands(draws)
		text, e := verb.Print(cs)
		if e != api.OK {
			t.Fatalf("%+v: %d", cs, e)
		}
		parsed(t, text, cs...)
	}
}

// P27.1, P27.2: texts that are turned at random; what is parsed, and printed, is parsed as it again.
func TestParseOfTurnedTexts(t *testing.T) {
	draws := rand.New(rand.NewPCG(3, 4))
	pieces := []string{" ", "\n", "-", "0", "1", "7", ".", "x", "load ", "load 1\n", "add ", "tick -", "solve 8 0 ", "report\n", "tickets", "1099511627776", "1099511627777", "\xff", "sing\n", "\n\n"}
	met := map[api.Errno]int{}
	for range 60000 {
		text, _ := verb.Print(drawnCommands(draws))
		for range draws.IntN(3) {
			at := draws.IntN(len(text) + 1)
			text = text[:at] + pieces[draws.IntN(len(pieces))] + text[min(len(text), at+draws.IntN(3)):]
		}
		want, line, wrong := wanted(text)
		cs, at, e := verb.Parse(text)
		if !slices.EqualFunc(cs, want, same) || at != line || e != wrong {
			t.Fatalf("%q: %+v %d %d, not %+v %d %d", text, cs, at, e, want, line, wrong)
		}
		met[e]++
		if e == api.OK {
			again, e := verb.Print(cs)
			if e != api.OK {
				t.Fatalf("%q: %+v, %d", text, cs, e)
			}
			parsed(t, again, cs...)
		}
	}
	for _, e := range []api.Errno{api.OK, api.ErrShort, api.ErrForm, api.ErrRange, api.ErrWord} {
		if met[e] < 100 {
			t.Errorf("hardly asked: %v", met)
		}
	}
}

// unprintable is why a command has no text, by what the chapter says.
func unprintable(c verb.Command) api.Errno {
	small := func(n int) bool { return 0 <= n && n <= 1<<40 }
	ns := []int{}
	switch c.Kind {
	case 1, 2, 3:
		ns = append(ns, c.N)
	case 4:
		if c.Clock < -1<<40 || c.Clock > 1<<40 {
			return api.ErrRange
		}
	case 5:
		ns = append(append(ns, c.N, c.Steps), c.Draws...)
	case 6, 7:
	default:
		return api.ErrWord
	}
	for _, n := range ns {
		if !small(n) {
			return api.ErrRange
		}
	}
	if c.Kind == 5 && len(c.Draws) > 4096 {
		return api.ErrMany
	}
	if c.Kind == 1 && (len(c.Text) > 1<<20 || c.Text != "" && !strings.HasSuffix(c.Text, "\n") || strings.Count(c.Text, "\n") != c.N) {
		return api.ErrForm
	}
	return api.OK
}

// oddCommand is a command of whatever may be handed in.
func oddCommand(draws *rand.Rand) verb.Command {
	number := func() int {
		return []int{0, 1, 2, 8, 1 << 40, -1, 1<<40 + 1, -1 << 40, -1<<40 - 1, math.MinInt, math.MaxInt}[min(draws.IntN(40), 10)%(5+draws.IntN(7))]
	}
	c := verb.Command{Kind: draws.IntN(10) - 1, N: number(), Steps: number(), Clock: int64(number())}
	c.Text = []string{"", "x", "x\n", "\n\n", "x\ny"}[draws.IntN(5)]
	for range draws.IntN(3) {
		c.Draws = append(c.Draws, number())
	}
	if draws.IntN(8) == 0 {
		c.Draws = make([]int, 4096+draws.IntN(3))
	}
	return c
}

// P27.1, P1: of whatever commands the first error of the first one that has one; else a text that is parsed as they are, but for what doesn't belong to their kinds.
func TestPrintOfOddCommands(t *testing.T) {
	draws := rand.New(rand.NewPCG(5, 6))
	met := map[api.Errno]int{}
	for range 30000 {
		var cs []verb.Command
		want := api.OK
		for range 1 + draws.IntN(3) {
			c := oddCommand(draws)
			cs = append(cs, c)
			if want == api.OK {
				want = unprintable(c)
			}
		}
		text, e := verb.Print(cs)
		if e != want || e != api.OK && text != "" {
			t.Fatalf("%.300s: %.200q, %d, not %d", fmt.Sprintf("%+v", cs), text, e, want)
		}
		met[e]++
		if e == api.OK {
			parsed(t, text, belonging(cs)...)
		}
	}
	for _, e := range []api.Errno{api.OK, api.ErrForm, api.ErrRange, api.ErrMany, api.ErrWord} {
		if met[e] < 100 {
			t.Errorf("hardly asked: %v", met)
		}
	}
}

// belonging is commands without what doesn't belong to their kinds.
func belonging(cs []verb.Command) []verb.Command {
	var own []verb.Command
	for _, c := range cs {
		switch c.Kind {
		case verb.Load:
			c = load(c.N, c.Text)
		case verb.Tick:
			c = verb.Command{Kind: verb.Tick, Clock: c.Clock}
		case verb.Solve:
			c = solve(c.N, c.Steps, c.Draws...)
		case verb.Report, verb.Tickets:
			c = verb.Command{Kind: c.Kind}
		default:
			c = verb.Command{Kind: c.Kind, N: c.N}
		}
		own = append(own, c)
	}
	return own
}

// What is printed isn't changed, what lies behind its lists neither; and no two draws of an answer share memory, with their spare room.
func TestNothingIsShared(t *testing.T) {
	lists := [][]int{{3, 1, 4, 90, 91}, {2, 92}}
	cs := []verb.Command{solve(8, 0, lists[0][:3]...), solve(8, 0, lists[1][:1]...), one(verb.Report, 0)}
	printed(t, "solve 8 0 3 1 4\nsolve 8 0 2\n", cs[:2]...)
	if !slices.Equal(lists[0], []int{3, 1, 4, 90, 91}) || !slices.Equal(lists[1], []int{2, 92}) || !same(cs[2], one(verb.Report, 0)) || !slices.Equal(cs[0].Draws, []int{3, 1, 4}) {
		t.Errorf("%v %v", lists, cs)
	}
	const text = "solve 8 7 3 1 4\nsolve 6 5 9 2 6\nsolve 4 3 5 3 5\n"
	cs, _, _ = verb.Parse(text)
	for i := range cs {
		all := cs[i].Draws[:cap(cs[i].Draws)]
		for j := range all {
			all[j] = -i
		}
	}
	for i, c := range cs {
		if c.N != 8-2*i || c.Steps != 7-2*i || !slices.Equal(c.Draws, []int{-i, -i, -i}) {
			t.Errorf("%+v", cs)
		}
	}
	parsed(t, text, solve(8, 7, 3, 1, 4), solve(6, 5, 9, 2, 6), solve(4, 3, 5, 3, 5))
}
