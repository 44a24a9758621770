package file

import (
	"math"
	"math/rand/v2"
	"slices"
	"strconv"
	"strings"
	"testing"

	"jitney/api"
	"jitney/deci"
	"jitney/plan"
)

const sample = "plan 3 1099511627776\nroute 0 1 3 5\ntimes 4 5 7 10\nroute 0 5\ntimes\nroute 0 1099511627776 2 2\ntimes 1099511627776 0 7 3\nleft 2 1 1099511627776 0\n"

func ofSample() plan.Plan {
	return plan.Plan{
		Routes: [][]int{{0, 1, 3, 5}, {0, 5}, {0, api.MaxTime, 2, 2}},
		Times:  [][]int64{{4, 5, 7, 10}, nil, {api.MaxTime, 0, 7, 3}},
		Left:   []int{2, 1, api.MaxTime, 0},
		Cost:   api.MaxTime,
	}
}

// small is the chapter's example, least a plan of no cars.
const (
	small = "plan 1 0\nroute 0 3\ntimes 0 0\nleft 1\n"
	least = "plan 0 0\nleft\n"
)

func ofSmall() plan.Plan {
	return plan.Plan{Routes: [][]int{{0, 3}}, Times: [][]int64{{0, 0}}, Left: []int{1}}
}

func parsed(t *testing.T, text string, want plan.Plan) {
	t.Helper()
	if p, at, e := Parse(text); !plan.Same(p, want) || at != 0 || e != api.OK {
		t.Errorf("%.200q: %+v %d %d", text, p, at, e)
	}
}

func refused(t *testing.T, text string, line int, want api.Errno) {
	t.Helper()
	p, at, e := Parse(text)
	if at != line || e != want {
		t.Errorf("%.300q: line %d, %d, not line %d, %d", text, at, e, line, want)
	}
	if !plan.Same(p, plan.Plan{}) {
		t.Errorf("%.300q: beside an error %+v", text, p)
	}
}

func printed(t *testing.T, p plan.Plan, want string) {
	t.Helper()
	if text, e := Print(p); text != want || e != api.OK {
		t.Errorf("%+v: %.300q, %d", p, text, e)
	}
}

// P23.1: texts by hand, those that aren't as they would be printed too.
func TestParse(t *testing.T) {
	parsed(t, sample, ofSample())
	parsed(t, small, ofSmall())
	parsed(t, least, plan.Plan{})
	parsed(t, "plan 0 7\nleft 1 1\n", plan.Plan{Left: []int{1, 1}, Cost: 7})
	parsed(t, "plan 1 0000000000012\nroute 7\ntimes -0\nleft\n", plan.Plan{Routes: [][]int{{7}}, Times: [][]int64{{0}}, Cost: 12})
	parsed(t, "plan 1 -000\nroute 0 3\ntimes 007 00\nleft 1\n", plan.Plan{Routes: [][]int{{0, 3}}, Times: [][]int64{{7, 0}}, Left: []int{1}})
	parsed(t, "plan 2 5\nroute 1\ntimes\nroute 2 1 0\ntimes\nleft\n", plan.Plan{Routes: [][]int{{1}, {2, 1, 0}}, Times: make([][]int64, 2), Cost: 5})
}

// P23.1: plans by hand.
func TestPrint(t *testing.T) {
	printed(t, ofSample(), sample)
	printed(t, ofSmall(), small)
	printed(t, plan.Plan{}, least)
	printed(t, plan.Plan{Routes: [][]int{}, Times: [][]int64{}, Left: []int{}}, least)
	printed(t, plan.Plan{Routes: [][]int{{1}, {2, 1, 0}}, Times: [][]int64{nil, {}}, Cost: 1 << 20}, "plan 2 1048576\nroute 1\ntimes\nroute 2 1 0\ntimes\nleft\n")
}

// flaw is something that is turned in a plan, and the error that its text has then.
type flaw struct {
	what string
	turn func(p *plan.Plan)
	e    api.Errno
}

// flaws is what is turned in the sample.
func flaws() []flaw {
	long := make([]int, api.MaxStops+1)
	return []flaw{
		{"too many rows", func(p *plan.Plan) { p.Routes = slices.Repeat([][]int{{0}}, 65); p.Times = make([][]int64, 65) }, api.ErrMany}, {"too many rows alone", func(p *plan.Plan) { p.Routes = slices.Repeat([][]int{{0}}, 65) }, api.ErrMany}, {"a row too long", func(p *plan.Plan) { p.Routes[1] = long }, api.ErrMany}, {"the last one", func(p *plan.Plan) { p.Routes[2] = long; p.Times[2] = make([]int64, len(long)) }, api.ErrMany}, {"too many left", func(p *plan.Plan) { p.Left = long }, api.ErrMany},
		{"times too few", func(p *plan.Plan) { p.Times = p.Times[:2] }, api.ErrArg}, {"times too many", func(p *plan.Plan) { p.Times = append(p.Times, nil) }, api.ErrArg}, {"far too many", func(p *plan.Plan) { p.Times = make([][]int64, 65) }, api.ErrArg}, {"no times", func(p *plan.Plan) { p.Times = nil }, api.ErrArg}, {"a row without stops", func(p *plan.Plan) { p.Routes[1] = nil }, api.ErrArg}, {"an empty one", func(p *plan.Plan) { p.Routes[0], p.Times[0] = []int{}, nil }, api.ErrArg}, {"a time too few", func(p *plan.Plan) { p.Times[0] = []int64{4, 5, 7} }, api.ErrArg}, {"a time too many", func(p *plan.Plan) { p.Times[2] = []int64{1, 2, 3, 4, 5} }, api.ErrArg}, {"far too many times", func(p *plan.Plan) { p.Times[1] = make([]int64, api.MaxStops+1) }, api.ErrArg}, {"one time", func(p *plan.Plan) { p.Times[1] = []int64{0} }, api.ErrArg}, {"times of another one", func(p *plan.Plan) { p.Times[0], p.Times[1] = nil, p.Times[0] }, api.ErrArg},
		{"a stop below 0", func(p *plan.Plan) { p.Routes[0][0] = -1 }, api.ErrRange}, {"a stop too great", func(p *plan.Plan) { p.Routes[2][3] = api.MaxTime + 1 }, api.ErrRange}, {"the least one", func(p *plan.Plan) { p.Routes[1][1] = math.MinInt }, api.ErrRange}, {"the greatest one", func(p *plan.Plan) { p.Routes[1][1] = math.MaxInt }, api.ErrRange}, {"one left below 0", func(p *plan.Plan) { p.Left[3] = -1 }, api.ErrRange}, {"one left too great", func(p *plan.Plan) { p.Left[0] = api.MaxTime + 1 }, api.ErrRange},
		{"a time below 0", func(p *plan.Plan) { p.Times[2][3] = -1 }, api.ErrRange}, {"a time too great", func(p *plan.Plan) { p.Times[0][0] = api.MaxTime + 1 }, api.ErrRange}, {"the greatest time", func(p *plan.Plan) { p.Times[0][2] = math.MaxInt64 }, api.ErrRange}, {"a cost below 0", func(p *plan.Plan) { p.Cost = -1 }, api.ErrRange}, {"too great a cost", func(p *plan.Plan) { p.Cost = api.MaxTime + 1 }, api.ErrRange}, {"the least cost", func(p *plan.Plan) { p.Cost = math.MinInt64 }, api.ErrRange},
	}
}

// P23.1: what has no text, the first error of two.
func TestPrintRefuses(t *testing.T) {
	later := []flaw{ // what can be turned behind any other flaw
		{"no times", func(p *plan.Plan) { p.Times = nil }, api.ErrArg}, {"a row without stops", func(p *plan.Plan) { p.Routes, p.Times = append(p.Routes, nil), append(p.Times, nil) }, api.ErrArg}, {"a time too many", func(p *plan.Plan) { p.Routes, p.Times = append(p.Routes, []int{1}), append(p.Times, []int64{1, 2}) }, api.ErrArg},
		{"a cost below 0", func(p *plan.Plan) { p.Cost = -1 }, api.ErrRange}, {"one left too great", func(p *plan.Plan) { p.Left = append(p.Left, math.MaxInt) }, api.ErrRange}, {"a stop and a time below 0", func(p *plan.Plan) { p.Routes, p.Times = append(p.Routes, []int{-1}), append(p.Times, []int64{-1}) }, api.ErrRange},
	}
	order := []api.Errno{api.ErrMany, api.ErrArg, api.ErrRange}
	for _, f := range flaws() {
		p := ofSample()
		f.turn(&p)
		if text, e := Print(p); text != "" || e != f.e {
			t.Errorf("%s: %q %d, not %d", f.what, text, e, f.e)
		}
		for _, g := range later {
			p := ofSample()
			f.turn(&p)
			g.turn(&p)
			if text, e := Print(p); slices.Index(order, f.e) <= slices.Index(order, g.e) && (text != "" || e != f.e) {
				t.Errorf("%s, %s: %q %d, not %d", f.what, g.what, text, e, f.e)
			}
		}
	}
	if _, e := Print(plan.Plan{Routes: [][]int{{-1}, {}}, Times: make([][]int64, 2), Cost: -1}); e != api.ErrArg {
		t.Errorf("a stop below 0, and a row without: %d", e)
	}
	if _, e := Print(plan.Plan{Routes: [][]int{{-1}}, Left: make([]int, api.MaxStops+1), Cost: -1}); e != api.ErrMany {
		t.Errorf("too many are left, and no times: %d", e)
	}
}

// P23.1, P23.2: as many as may be of all, and what may be too long to be read.
func TestTheMost(t *testing.T) {
	p := plan.Plan{Routes: slices.Repeat([][]int{{5}}, api.MaxCars), Times: make([][]int64, api.MaxCars), Left: make([]int, api.MaxStops), Cost: 3}
	p.Routes[63], p.Times[63] = slices.Repeat([]int{9}, api.MaxStops), slices.Repeat([]int64{7}, api.MaxStops)
	text := "plan 64 3\n" + strings.Repeat("route 5\ntimes\n", 63) + "route" + strings.Repeat(" 9", 4096) + "\ntimes" + strings.Repeat(" 7", 4096) + "\nleft" + strings.Repeat(" 0", 4096) + "\n"
	printed(t, p, text)
	parsed(t, text, p)
	for i := range p.Routes {
		p.Routes[i] = slices.Repeat([]int{api.MaxTime}, api.MaxStops)
	}
	// The chapter has no bound for what is printed, but one for what is parsed.
	text, e := Print(p)
	if e != api.OK || len(text) < 14*64*4096 {
		t.Errorf("%d bytes, %d", len(text), e)
	}
	refused(t, text, 0, api.ErrLong)
}

// P23.1: the whole text, lines that are missing, and those that are too many.
func TestParseOfLines(t *testing.T) {
	refused(t, "", 1, api.ErrShort)
	refused(t, "\n", 1, api.ErrForm)
	refused(t, "plan 0 0", 0, api.ErrShort)
	refused(t, "x", 0, api.ErrShort)
	refused(t, least+strings.Repeat("x", api.MaxText), 0, api.ErrLong)
	refused(t, least+strings.Repeat("\n", api.MaxText-len(least)), 3, api.ErrMore)
	refused(t, strings.Repeat("\n", api.MaxText+1), 0, api.ErrLong)
	refused(t, "plan 64 0\n", 2, api.ErrShort)
	refused(t, "plan 64 0\nleft\n", 2, api.ErrForm)
	refused(t, "plan 0 0\nroute 1\ntimes 0\nleft\n", 2, api.ErrForm)
	for _, text := range []string{sample, small, least} {
		lines := strings.SplitAfter(text, "\n")
		for i := range len(lines) - 1 {
			refused(t, strings.Join(lines[:i], ""), i+1, api.ErrShort)
			if i > 0 {
				refused(t, strings.TrimSuffix(strings.Join(lines[:i], ""), "\n"), 0, api.ErrShort)
			}
			refused(t, strings.Join(slices.Insert(slices.Clone(lines), i, "\n"), ""), i+1, api.ErrForm)
		}
		for _, more := range []string{"\n", "left\n", "x\n", " \n", "plan 0 0\nleft\n", "\xff\n\n"} {
			refused(t, text+more, len(lines), api.ErrMore)
		}
	}
}

// edit is a text with one of its lines turned.
func edit(text string, line int, turn func(words []string) []string) string {
	lines := strings.Split(strings.TrimSuffix(text, "\n"), "\n")
	lines[line-1] = strings.Join(turn(strings.Split(lines[line-1], " ")), " ")
	return strings.Join(lines, "\n") + "\n"
}

func instead(text string, line int, by string) string {
	return edit(text, line, func([]string) []string { return []string{by} })
}

// refusal is why a word of a line, at a place, isn't what it must be.
func refusal(name string, place int, word string) api.Errno {
	if name == "times" || name == "plan" && place == 2 {
		n, e := deci.Read(word, 0)
		if e == api.OK && n < 0 {
			return api.ErrRange
		}
		return e
	}
	n, e := deci.Whole(word)
	if e == api.OK && name == "plan" && n > 64 {
		return api.ErrMany
	}
	return e
}

// P23.1: each word of each line.
func TestParseOfEachWord(t *testing.T) {
	words := []string{
		"x", "-", ".", "1.", "+1", "1e1", "0x1", "1,5", "~", "00000000000000", "12345678901234", "1.0", "--1", "\x7f", "é", "1\t", "\xff", "left", "route", "times", "plan",
		"-1", "-0", "01", "00", "0", "7", "64", "65", "1099511627776", "1099511627777", "-1099511627776", "-1099511627777", "9999999999999", "-9999999999999",
	}
	for _, text := range []string{sample, small, least} {
		for i, line := range strings.Split(strings.TrimSuffix(text, "\n"), "\n") {
			list := strings.Split(line, " ")
			for k := range list {
				put := func(word string) string {
					return edit(text, i+1, func(all []string) []string { all[k] = word; return all })
				}
				refused(t, put(""), i+1, api.ErrForm)
				for _, word := range words {
					if k == 0 {
						if word != list[0] {
							refused(t, put(word), i+1, api.ErrForm)
						}
					} else if e := refusal(list[0], k, word); e != api.OK {
						refused(t, put(word), i+1, e)
					} else if _, at, e := Parse(put(word)); e != api.OK && at == i+1 {
						t.Errorf("%q: line %d, %d", put(word), at, e)
					}
				}
			}
		}
	}
}

// P23.1: the first word, then how many there are, then word by word.
func TestParseTellsTheFirstOfALine(t *testing.T) {
	many := strings.Repeat(" 0", 4097)
	wrong, great := strings.Repeat(" x", 4097), strings.Repeat(" 9999999999999", 4097)
	for _, c := range []struct {
		line int
		by   string
		e    api.Errno
	}{
		{1, "plan", api.ErrForm}, {1, "plan 3", api.ErrForm}, {1, "plan 3 16 0", api.ErrForm}, {1, "plan 9999999999999", api.ErrForm}, {1, "plan 65", api.ErrForm}, {1, "plan 65 0 0", api.ErrForm}, {1, "plan" + many, api.ErrForm}, {1, "plans 65 0", api.ErrForm}, {1, "PLAN 3 16", api.ErrForm}, {1, "jitney 3 16", api.ErrForm},
		{1, "plan 65 16", api.ErrMany}, {1, "plan 65 x", api.ErrForm}, {1, "plan 65 -1", api.ErrRange}, {1, "plan 65 9999999999999", api.ErrRange}, {1, "plan 1099511627776 0", api.ErrMany}, {1, "plan 1099511627777 0", api.ErrRange}, {1, "plan 9999999999999 x", api.ErrRange}, {1, "plan x 9999999999999", api.ErrForm}, {1, "plan x -1", api.ErrForm}, {1, "plan -1 0", api.ErrForm}, {1, "plan 03 0", api.ErrForm}, {1, "plan 3 0.0", api.ErrForm}, {1, "plan 9999999999999 -1", api.ErrRange}, {1, "plan -65 0", api.ErrForm},
		{2, "route", api.ErrForm}, {2, "times 0", api.ErrForm}, {2, "left", api.ErrForm}, {2, "route" + many, api.ErrMany}, {2, "route" + wrong, api.ErrMany}, {2, "route" + great, api.ErrMany}, {2, "times" + many, api.ErrForm}, {2, "x" + many, api.ErrForm}, {2, "route x 9999999999999", api.ErrForm}, {2, "route 9999999999999 x", api.ErrRange}, {2, "route 1 -0", api.ErrForm}, {2, "route 1 2 9999999999999 01", api.ErrRange}, {2, "route -1", api.ErrForm},
		{3, "route 4 5 7 10", api.ErrForm}, {3, "left 2", api.ErrForm}, {3, "times 4 5 7", api.ErrArg}, {3, "times 4 5 7 10 11", api.ErrArg}, {3, "times 4", api.ErrArg}, {3, "times x", api.ErrArg}, {3, "times 9999999999999 x 0", api.ErrArg}, {3, "times -1 -1 -1 -1 -1", api.ErrArg}, {3, "times" + many, api.ErrMany}, {3, "times" + wrong, api.ErrMany}, {3, "route" + many, api.ErrForm}, {3, "times 1 x -1 2", api.ErrForm}, {3, "times 1 -1 x 2", api.ErrRange}, {3, "times 1 9999999999999 x 2", api.ErrRange}, {3, "times 1 x 9999999999999 2", api.ErrForm}, {3, "times 0 0 0 0.0", api.ErrForm}, {3, "times 0 0 0 -1", api.ErrRange},
		{5, "times 1 2 3 4", api.ErrArg}, {5, "times 1 2 3", api.ErrArg}, {5, "times 1", api.ErrArg}, {5, "times -1 2", api.ErrRange}, {5, "left 1 2", api.ErrForm}, {7, "times 1 2", api.ErrArg},
		{8, "left" + many, api.ErrMany}, {8, "left" + wrong, api.ErrMany}, {8, "route" + many, api.ErrForm}, {8, "left x 9999999999999", api.ErrForm}, {8, "left 9999999999999 x", api.ErrRange}, {8, "left -1", api.ErrForm}, {8, "left 1 02", api.ErrForm}, {8, "route 0 5", api.ErrForm}, {8, "Left 1", api.ErrForm},
	} {
		refused(t, instead(sample, c.line, c.by), c.line, c.e)
	}
	parsed(t, instead(sample, 3, "times"), turned(ofSample(), func(p *plan.Plan) { p.Times[0] = nil }))
	parsed(t, instead(sample, 8, "left"+many[2:]), turned(ofSample(), func(p *plan.Plan) { p.Left = make([]int, 4096) }))
	for _, text := range []string{sample, small, least} {
		for i := range strings.Count(text, "\n") {
			for _, blank := range []func(words []string) []string{
				func(words []string) []string { return nil }, func(words []string) []string { return words[1:] }, func(words []string) []string { return append(words, "") }, func(words []string) []string { return append([]string{""}, words...) }, func(words []string) []string { return slices.Insert(words, 1, "") },
				func(words []string) []string { words[0] += "\t"; return words }, func(words []string) []string { words[len(words)-1] += "\r"; return words }, func(words []string) []string { return append(words, "\x00") },
			} {
				refused(t, edit(text, i+1, blank), i+1, api.ErrForm)
			}
		}
	}
}

func turned(p plan.Plan, turn func(p *plan.Plan)) plan.Plan {
	turn(&p)
	return p
}

// P1: of two lines the first one is told, ahead of what is missing, and of what is too much.
func TestParseTellsTheFirstLine(t *testing.T) {
	lines := strings.Count(sample, "\n")
	for a := 1; a <= lines; a++ {
		for b := a + 1; b <= lines; b++ {
			refused(t, instead(instead(sample, a, "x"), b, strings.Repeat("y ", 5000)+"y"), a, api.ErrForm)
			refused(t, instead(instead(sample, b, "x"), a, "x\x7f"), a, api.ErrForm)
		}
		wrong := instead(sample, a, "x")
		refused(t, wrong+"more\n", a, api.ErrForm)
		refused(t, strings.Join(strings.SplitAfter(wrong, "\n")[:a], ""), a, api.ErrForm)
		refused(t, strings.TrimSuffix(wrong, "\n"), 0, api.ErrShort)
	}
	refused(t, instead(instead(sample, 1, "plan 65 0"), 2, "x"), 1, api.ErrMany)
	refused(t, instead(instead(sample, 3, "times 1"), 4, "x"), 3, api.ErrArg)
	refused(t, instead(instead(sample, 3, "times 1"), 2, "x"), 2, api.ErrForm)
	refused(t, "plan 65 0\n", 1, api.ErrMany)
	refused(t, "plan 1 0\nroute 1 x\n", 2, api.ErrForm)
	refused(t, instead(sample, 8, "left -1")+"more\n", 8, api.ErrForm)
}

// wanted is the plan of a text, or the line and the error, by what the chapter says of its lines.
func wanted(text string) (p plan.Plan, line int, e api.Errno) {
	lines, e := deci.Lines(text)
	if e != api.OK {
		return plan.Plan{}, 0, e
	}
	names := []string{"plan"}
	for at := 0; at < len(names); at++ {
		if at >= len(lines) {
			return plan.Plan{}, at + 1, api.ErrShort
		}
		words, e := deci.Words(lines[at])
		if e == api.OK {
			e = lineError(names[at], words, p)
		}
		if e != api.OK {
			return plan.Plan{}, at + 1, e
		}
		switch behind := words[1:]; names[at] {
		case "plan":
			m, _ := strconv.Atoi(behind[0])
			p.Cost, _ = strconv.ParseInt(behind[1], 10, 64)
			names = append(append(names, slices.Repeat([]string{"route", "times"}, m)...), "left")
		case "times":
			p.Times = append(p.Times, nil)
			for _, n := range inInts(behind) {
				p.Times[len(p.Times)-1] = append(p.Times[len(p.Times)-1], int64(n))
			}
		case "route":
			p.Routes = append(p.Routes, inInts(behind))
		default:
			p.Left = inInts(behind)
		}
	}
	if len(lines) > len(names) {
		return plan.Plan{}, len(names) + 1, api.ErrMore
	}
	return p, 0, api.OK
}

func inInts(words []string) []int {
	var ns []int
	for _, word := range words {
		n, _ := strconv.Atoi(word)
		ns = append(ns, n)
	}
	return ns
}

// lineError is the error of a line behind what was read of a plan.
func lineError(name string, words []string, p plan.Plan) api.Errno {
	many := len(words) - 1
	switch {
	case many < 0 || words[0] != name || name == "plan" && many != 2 || name == "route" && many == 0:
		return api.ErrForm
	case many > 4096:
		return api.ErrMany
	case name == "times" && many > 0 && many != len(p.Routes[len(p.Routes)-1]):
		return api.ErrArg
	}
	last := api.OK
	for k := 1; k <= many; k++ {
		e := refusal(name, k, words[k])
		if e == api.ErrMany { // behind all words
			last = e
		} else if e != api.OK {
			return e
		}
	}
	return last
}

// drawn is a plan that has a text.
func drawn(draws *rand.Rand) plan.Plan {
	number := func() int { return draws.IntN(api.MaxTime+1) >> draws.IntN(41) }
	p := plan.Plan{Cost: int64(number())}
	for range draws.IntN(5) {
		var row []int
		var times []int64
		timed := draws.IntN(2) == 0
		for range 1 + draws.IntN(6) {
			row = append(row, number())
			if timed {
				times = append(times, int64(number()))
			}
		}
		p.Routes, p.Times = append(p.Routes, row), append(p.Times, times)
	}
	for range draws.IntN(4) {
		p.Left = append(p.Left, number())
	}
	return p
}

// P23.2: what is printed is parsed as it.
func TestWhatIsPrintedIsParsedAsIt(t *testing.T) {
	draws := rand.New(rand.NewPCG(1, 2))
	for range 5000 {
		p := drawn(draws)
		text, e := Print(p)
		if e != api.OK {
			t.Fatalf("%+v: %d", p, e)
		}
		parsed(t, text, p)
		if q, _, _ := wanted(text); !plan.Same(p, q) {
			t.Fatalf("%+v: %q", p, text)
		}
	}
}

// turnedText is a text of which something was turned.
func turnedText(draws *rand.Rand, text string) string {
	const bytes = "0123456789.- \nxrplt\t\x00\xff"
	at := draws.IntN(len(text))
	one := string(bytes[draws.IntN(len(bytes))])
	switch draws.IntN(6) {
	case 0:
		return text[:at] + one + text[at:]
	case 1:
		return text[:at] + text[at+1:]
	case 2:
		return text[:at] + one + text[at+1:]
	case 3:
		return text[:at] + text[at+draws.IntN(len(text)-at+1):]
	case 4:
		return strings.Replace(text, " ", []string{" 0 ", " 1 ", " -1 ", "  ", " 9999999999999 ", " 65 ", "\n"}[draws.IntN(7)], 1+draws.IntN(2))
	}
	lines := strings.SplitAfter(text, "\n")
	a, b := draws.IntN(len(lines)), draws.IntN(len(lines))
	lines[a], lines[b] = lines[b], lines[a]
	return strings.Join(lines, "")
}

// P23.1, P23.2: of turned texts the plan, or the first fault; what is parsed, and printed, is parsed as it again.
func TestParseOfTurnedTexts(t *testing.T) {
	draws := rand.New(rand.NewPCG(3, 4))
	met := map[api.Errno]int{}
	for range 60000 {
		text, _ := Print(drawn(draws))
		for range draws.IntN(3) {
			if text != "" {
				text = turnedText(draws, text)
			}
		}
		want, line, wrong := wanted(text)
		met[wrong]++
		if wrong != api.OK {
			refused(t, text, line, wrong)
			continue
		}
		parsed(t, text, want)
		again, e := Print(want)
		if e != api.OK {
			t.Fatalf("%q: %d", text, e)
		}
		parsed(t, again, want)
	}
	for _, e := range []api.Errno{api.OK, api.ErrShort, api.ErrForm, api.ErrRange, api.ErrMany, api.ErrArg, api.ErrMore} {
		if met[e] < 20 {
			t.Errorf("hardly asked: %v", met)
		}
	}
}

// P23.1: of any bytes.
func TestParseOfAnyBytes(t *testing.T) {
	draws := rand.New(rand.NewPCG(5, 6))
	for range 20000 {
		text := make([]byte, draws.IntN(40))
		for i := range text {
			text[i] = byte(draws.IntN(256) >> draws.IntN(6))
		}
		_, line, e := wanted(string(text))
		refused(t, string(text), line, e)
	}
}

// The lists of an answer share no memory, spare room too.
func TestListsOfAnAnswerShareNoMemory(t *testing.T) {
	p, _, _ := Parse(sample)
	lists := append(slices.Clone(p.Routes), p.Left)
	for i, list := range lists {
		for j := range list[:cap(list)] {
			list[:cap(list)][j] = 100 + i
		}
	}
	for i, times := range p.Times {
		for j := range times[:cap(times)] {
			times[:cap(times)][j] = int64(200 + i)
		}
	}
	for i, list := range lists {
		if slices.ContainsFunc(list, func(n int) bool { return n != 100+i }) {
			t.Errorf("list %d: %v", i, list)
		}
	}
	for i, times := range p.Times {
		if slices.ContainsFunc(times, func(n int64) bool { return n != int64(200+i) }) {
			t.Errorf("times %d: %v", i, times)
		}
	}
	parsed(t, sample, ofSample())
}

// What is printed is left as it was, with an error too.
func TestPrintChangesNothing(t *testing.T) {
	for _, f := range append(flaws(), flaw{"nothing", func(*plan.Plan) {}, api.OK}) {
		p, kept := ofSample(), ofSample()
		f.turn(&p)
		f.turn(&kept)
		Print(p)
		if !plan.Same(p, kept) {
			t.Errorf("%s: %+v", f.what, p)
		}
	}
}
