package session_test

import (
	"fmt"
	"math"
	"slices"
	"strings"
	"testing"

	"jitney/api"
	"jitney/book"
	"jitney/file"
	"jitney/inst"
	"jitney/plan"
	"jitney/session"
	"jitney/sheet"
	"jitney/ticket"
	"jitney/verb"
)

// twoSheet is two on a line, from 1 to 3 and from 2 to 4, the end's depot behind both, so that but one order is the cheapest, with a car of two seats, and one that takes nobody.
const twoSheet = "jitney 0 2 2 spots\ncar 2 0 100\ncar 0 0 100\nstop 0 0 0 0 0 0 100\nstop 1 0 1 0 0 0 100\nstop 2 0 1 0 0 0 100\nstop 3 0 -1 0 0 0 100\nstop 4 0 -1 0 0 0 100\nstop 5 0 0 0 0 0 100\nride 20\nride 20\n"

// oneSheet is one request, from 0 to 3+4i.
const oneSheet = "jitney 0 1 1 spots\ncar 1 0 100\nstop 0 0 0 0 0 0 100\nstop 0 0 1 0 1 0 50\nstop 3 4 -1 0 1 0 90\nstop 0 0 0 0 0 0 100\nride 20\n"

// idleTwo is the plan of two idle cars, with who is left.
const idleTwo = "plan 2 10\nroute 0 5\ntimes\nroute 0 5\ntimes\nleft"

// loading is the text of a command that loads a text.
func loading(t testing.TB, text string) string {
	t.Helper()
	line, e := verb.Print([]verb.Command{load(text)})
	if e != api.OK {
		t.Fatalf("%q: %d", text, e)
	}
	return line
}

func load(text string) verb.Command {
	return verb.Command{Kind: verb.Load, N: strings.Count(text, "\n"), Text: text}
}

// loaded is a session in which a text is loaded, and a text is run.
func loaded(t testing.TB, text, run string) *session.Session {
	t.Helper()
	s := session.New()
	if got, e := s.Do(load(text)); got != "" || e != api.OK || !s.Loaded() || s.Book() == nil {
		t.Fatalf("%q: %q, %d", text, got, e)
	}
	if got := s.Run(run); strings.Contains(got, "error") {
		t.Fatalf("%q: %q", run, got)
	}
	return s
}

func answers(t *testing.T, s *session.Session, text, want string) {
	t.Helper()
	if got := s.Run(text); got != want {
		t.Errorf("%.200q: %q, not %q", text, got, want)
	}
}

func does(t *testing.T, s *session.Session, c verb.Command, want string, wrong api.Errno) {
	t.Helper()
	if got, e := s.Do(c); got != want || e != wrong {
		t.Errorf("%.200s: %q %d, not %q %d", fmt.Sprintf("%+v", c), got, e, want, wrong)
	}
}

// state is all that a session tells of itself.
type state struct {
	loaded bool
	book   *book.Book
	clock  int64
	list   []int
	tours  []api.Tour
	plan   plan.Plan
	x      api.Instance
}

func stateOf(s *session.Session) state {
	b := s.Book()
	if b == nil {
		return state{loaded: s.Loaded()}
	}
	return state{s.Loaded(), b, b.Clock(), b.List(), b.Tours(), b.Plan(), b.Instance()}
}

func (a state) same(b state) bool {
	sameTour := func(a, b api.Tour) bool { return slices.Equal(a.Seq, b.Seq) && slices.Equal(a.Pins, b.Pins) }
	return a.loaded == b.loaded && a.book == b.book && a.clock == b.clock && slices.Equal(a.list, b.list) && slices.EqualFunc(a.tours, b.tours, sameTour) && plan.Same(a.plan, b.plan) && inst.Same(a.x, b.x)
}

// refuses holds that a command has an error, with which nothing is turned.
func refuses(t *testing.T, s *session.Session, c verb.Command, wrong api.Errno) {
	t.Helper()
	was := stateOf(s)
	does(t, s, c, "", wrong)
	if is := stateOf(s); !is.same(was) {
		t.Errorf("%.200s: %+v, not %+v", fmt.Sprintf("%+v", c), is, was)
	}
}

// all is a command of each kind but load.
func all() []verb.Command {
	return []verb.Command{{Kind: verb.Add, N: 1}, {Kind: verb.Cancel, N: 1}, {Kind: verb.Tick, Clock: 5}, {Kind: verb.Solve, N: 8}, {Kind: verb.Report}, {Kind: verb.Tickets}}
}

// strange is commands of no kind.
func strange() []verb.Command {
	return []verb.Command{{}, {Kind: -1, N: 1}, {Kind: 8, N: 1}, {Kind: math.MinInt}, {Kind: math.MaxInt}, {Text: twoSheet, N: 11}}
}

// P28.1: a session in which nothing is loaded.
func TestNothingIsLoaded(t *testing.T) {
	s := session.New()
	for _, c := range all() {
		refuses(t, s, c, api.ErrState)
	}
	for _, c := range strange() {
		refuses(t, s, c, api.ErrWord)
	}
	refuses(t, s, verb.Command{Kind: verb.Solve, N: 9, Steps: -1}, api.ErrState)
	refuses(t, s, verb.Command{Kind: verb.Tick, Clock: -1}, api.ErrState)
	refuses(t, s, load("x\n"), api.ErrForm)
	answers(t, s, "", "")
	answers(t, s, "add 1\ncancel 1\ntick 5\nsolve 8 0\nreport\ntickets\n", strings.Repeat("error 42\n", 6))
	answers(t, s, "load 1\nx\nreport\n", "error 21\nerror 42\n")
	if s.Loaded() || s.Book() != nil {
		t.Error("something is loaded")
	}
}

// P28.1: sessions don't know of one another.
func TestSessionsAreApart(t *testing.T) {
	a, b := loaded(t, twoSheet, "add 1\n"), session.New()
	if b.Loaded() || b.Book() != nil {
		t.Error("something is loaded")
	}
	answers(t, b, loading(t, twoSheet)+"add 2\ntickets\n", "ok\nok\n2 unserved\n")
	answers(t, a, "tickets\n", "1 unserved\n")
}

// P28.1: what is loaded is a new book of the instance; another one takes its place, with nothing of what was; what has an error doesn't.
func TestLoad(t *testing.T) {
	s := loaded(t, twoSheet, "")
	x, _, _, _ := sheet.Parse(twoSheet)
	fresh, _ := book.New(x)
	if is, want := stateOf(s), (state{true, s.Book(), 0, nil, fresh.Tours(), fresh.Plan(), x}); !is.same(want) {
		t.Errorf("%+v, not %+v", is, want)
	}
	answers(t, s, "add 1\nsolve 8 0\ntick 2\n", "ok\nok\nok\n")
	old := s.Book()
	for _, c := range []struct {
		text string
		e    api.Errno
	}{
		{"", api.ErrShort}, {"x", api.ErrShort}, {"x\n", api.ErrForm}, {"\n", api.ErrForm}, {twoSheet + "\n", api.ErrMore}, {strings.TrimSuffix(twoSheet, "ride 20\n"), api.ErrShort}, {strings.TrimSuffix(twoSheet, "\n"), api.ErrShort},
		{strings.Repeat("\n", api.MaxText+1), api.ErrLong}, {"jitney 0 0 0 spots\n", api.ErrArg}, {"jitney 0 65 0 spots\n", api.ErrMany}, {"jitney 7 1 0 spots\n", api.ErrRange}, {strings.Replace(twoSheet, "-1 0", "-2 0", 1), api.ErrLoad}, {strings.Replace(twoSheet, "stop 0 0 0 0 0 0 100", "stop 0 0 0 0 0 101 100", 1), api.ErrRange},
	} {
		refuses(t, s, load(c.text), c.e)
		refuses(t, session.New(), load(c.text), c.e)
		if _, _, _, e := sheet.Parse(c.text); e != c.e {
			t.Errorf("%.100q: layer 6 says %d", c.text, e)
		}
	}
	answers(t, s, "load 0\nload 1\n\ntickets\n", "error 20\nerror 21\n1 0 1 3 2\n")
	answers(t, s, loading(t, oneSheet)+"tickets\nreport\n", "ok\nok\nplan 1 0\nroute 0 3\ntimes\nleft\n")
	if s.Book() == old || s.Book().Clock() != 0 || old.Clock() != 2 || len(old.List()) != 1 {
		t.Error("the new book, or the old one")
	}
	answers(t, s, loading(t, oneSheet)+"add 1\n"+loading(t, oneSheet)+"add 1\n", "ok\nok\nok\nok\n")
}

// P28.1: Load asks Text alone, and no command what doesn't belong to its kind.
func TestWhatIsntAsked(t *testing.T) {
	odd := verb.Command{N: -1, Steps: -1, Clock: -1, Draws: []int{-1}, Text: "x"}
	do := func(s *session.Session, turn func(c *verb.Command), want string) {
		t.Helper()
		c := odd
		turn(&c)
		does(t, s, c, want, api.OK)
	}
	s := session.New()
	do(s, func(c *verb.Command) { c.Kind, c.Text = verb.Load, oneSheet }, "")
	do(s, func(c *verb.Command) { c.Kind, c.N = verb.Add, 1 }, "")
	do(s, func(c *verb.Command) { c.Kind = verb.Tickets }, "1 unserved\n")
	do(s, func(c *verb.Command) { c.Kind, c.N, c.Steps = verb.Solve, 1, 0 }, "")
	do(s, func(c *verb.Command) { c.Kind = verb.Report }, "plan 1 10\nroute 0 1 2 3\ntimes 0 0 6 12\nleft\n")
	do(s, func(c *verb.Command) {
		c.Kind, c.N, c.Steps, c.Draws = verb.Solve, 8, 1000, []int{-5, math.MinInt, math.MaxInt}
	}, "")
	do(s, func(c *verb.Command) { c.Kind, c.Clock = verb.Tick, 0 }, "")
	do(s, func(c *verb.Command) { c.Kind = verb.Tickets }, "1 0 0 6 5\n")
	if s.Book().State(1) != book.Started {
		t.Error("the depot and the pickup aren't frozen")
	}
}

// P28.1: Add, Cancel and Tick are the book's, with its errors.
func TestBooking(t *testing.T) {
	s := loaded(t, twoSheet, "")
	add := func(n int) verb.Command { return verb.Command{Kind: verb.Add, N: n} }
	cancel := func(n int) verb.Command { return verb.Command{Kind: verb.Cancel, N: n} }
	tick := func(clock int64) verb.Command { return verb.Command{Kind: verb.Tick, Clock: clock} }
	for _, n := range []int{0, -1, 3, math.MinInt, math.MaxInt} {
		refuses(t, s, add(n), api.ErrNone)
		refuses(t, s, cancel(n), api.ErrNone)
	}
	refuses(t, s, cancel(1), api.ErrNone)
	does(t, s, add(2), "", api.OK)
	refuses(t, s, add(2), api.ErrTwice)
	does(t, s, add(1), "", api.OK)
	does(t, s, cancel(2), "", api.OK)
	refuses(t, s, cancel(2), api.ErrNone)
	does(t, s, add(2), "", api.OK)
	if !slices.Equal(s.Book().List(), []int{1, 2}) {
		t.Errorf("%v", s.Book().List())
	}
	for _, clock := range []int64{-1, api.MaxTime + 1, math.MinInt64, math.MaxInt64} {
		refuses(t, s, tick(clock), api.ErrRange)
	}
	does(t, s, tick(0), "", api.OK)
	does(t, s, tick(7), "", api.OK)
	refuses(t, s, tick(6), api.ErrClock)
	does(t, s, tick(7), "", api.OK)
	does(t, s, tick(api.MaxTime), "", api.OK)
	refuses(t, s, tick(0), api.ErrClock)
	if s.Book().Clock() != api.MaxTime {
		t.Errorf("%d", s.Book().Clock())
	}
}

// P28.1: where a way round is shorter, one who is on the way to another one can't cancel.
func TestCancelThatLeavesNoTimes(t *testing.T) {
	const round = "jitney 0 1 2 times\ncar 1 0 100\nstop 0 0 0 0 100\nstop 1 0 0 0 100\nstop 1 0 0 0 10\nstop -1 0 0 0 100\nstop -1 0 0 0 100\nstop 0 0 0 0 100\nride 9\nride 9\n" +
		"row 0 1 50 50 50 50\nrow 50 0 50 1 50 50\nrow 50 50 0 50 1 50\nrow 50 50 1 0 50 50\nrow 50 50 50 50 0 1\nrow 50 50 50 50 50 0\n"
	s := loaded(t, round, "add 1\nadd 2\nsolve 8 0\n")
	answers(t, s, "report\ncancel 1\n", "plan 1 5\nroute 0 1 3 2 4 5\ntimes 0 1 2 3 4 5\nleft\nerror 34\n")
	refuses(t, s, verb.Command{Kind: verb.Cancel, N: 1}, api.ErrTime)
	answers(t, s, "cancel 2\ncancel 1\nreport\n", "ok\nok\nplan 1 50\nroute 0 5\ntimes\nleft\n")
}

// P28.1: Solve's numbers at their bounds and beyond, and a book that can't be served.
func TestSolve(t *testing.T) {
	s := loaded(t, twoSheet, "add 1\nadd 2\n")
	solve := func(k, steps int, draws ...int) verb.Command {
		return verb.Command{Kind: verb.Solve, N: k, Steps: steps, Draws: draws}
	}
	for _, c := range []verb.Command{solve(0, 0), solve(9, 0), solve(-1, 0), solve(math.MinInt, 0), solve(math.MaxInt, 0), solve(8, -1), solve(8, 1001), solve(8, math.MinInt), solve(8, math.MaxInt), solve(8, 0, make([]int, api.MaxDraws+1)...)} {
		refuses(t, s, c, api.ErrRange)
	}
	for _, c := range []verb.Command{solve(1, 0), solve(8, 1000), solve(8, 0, make([]int, api.MaxDraws)...), solve(1, 1, -1, math.MinInt, math.MaxInt)} {
		does(t, s, c, "", api.OK)
		does(t, s, verb.Command{Kind: verb.Tickets}, "1 0 1 3 2\n2 0 2 4 2\n", api.OK)
	}
	late := loaded(t, twoSheet, "tick 98\nadd 1\nadd 2\nsolve 8 5 1 2\n")
	does(t, late, verb.Command{Kind: verb.Report}, idleTwo+" 1 2\n", api.OK)
	does(t, late, verb.Command{Kind: verb.Tickets}, "1 unserved\n2 unserved\n", api.OK)
}

// P28.1: a command of no kind, when something is loaded.
func TestStrangeCommands(t *testing.T) {
	s := loaded(t, twoSheet, "add 1\nsolve 8 0\ntick 1\n")
	for _, c := range strange() {
		refuses(t, s, c, api.ErrWord)
	}
}

// P28.1: a report has layer 23's error: of two idle cars that would cost more than 2^40.
func TestReportOfTooGreatACost(t *testing.T) {
	const far = "jitney 0 2 0 times\ncar 1 0 9\ncar 1 0 9\nstop 0 0 0 0 9\nstop 0 0 0 0 9\nrow 0 1099511627776\nrow 0 0\n"
	s := loaded(t, far, "")
	if _, e := file.Print(s.Book().Plan()); e != api.ErrRange {
		t.Errorf("layer 23 says %d", e)
	}
	refuses(t, s, verb.Command{Kind: verb.Report}, api.ErrRange)
	answers(t, s, "report\ntickets\n", "error 23\nok\n")
	answers(t, loaded(t, strings.Replace(strings.Replace(far, " 2 0 times", " 1 0 times", 1), "car 1 0 9\n", "", 1), ""), "report\n", "plan 1 1099511627776\nroute 0 1\ntimes\nleft\n")
}

// P28.1: a text's commands, one after the other, each with its answer.
func TestRun(t *testing.T) {
	s := session.New()
	answers(t, s, loading(t, twoSheet)+"tickets\nreport\n", "ok\nok\n"+idleTwo+"\n")
	answers(t, s, "add 1\nadd 1\nadd 3\nadd 2\ntickets\nreport\n", "ok\nerror 5\nerror 4\nok\n1 unserved\n2 unserved\n"+idleTwo+" 1 2\n")
	answers(t, s, "solve 9 0\nsolve 8 1001\nsolve 8 0\nreport\n", "error 23\nerror 23\nok\nplan 2 10\nroute 0 1 2 3 4 5\ntimes 0 1 2 3 4 5\nroute 0 5\ntimes\nleft\n")
	answers(t, s, "tick 1\ncancel 1\ncancel 2\ncancel 2\nreport\ntickets\n", "ok\nerror 40\nok\nerror 4\nplan 2 10\nroute 0 1 3 5\ntimes 0 1 3 5\nroute 0 5\ntimes\nleft\n1 0 1 3 2\n")
	answers(t, s, "tick 0\ntick -1\ntick 1099511627776\n", "error 41\nerror 23\nok\n")
	answers(t, s, "", "")
}

// P28.1: of a text that has an error nothing is done, be it in its last line.
func TestRunOfATextThatHasAnError(t *testing.T) {
	for _, s := range []*session.Session{session.New(), loaded(t, twoSheet, "add 1\nsolve 8 0\ntick 1\n")} {
		was := stateOf(s)
		for _, c := range []struct{ text, want string }{
			{"\n", "line 1 error 50\n"}, {"add 2\nsing\n", "line 2 error 50\n"}, {"add 2\nreport 1\n", "line 2 error 21\n"}, {"add 2\nadd -1\nadd 1\n", "line 2 error 21\n"}, {"add 1099511627777\n", "line 1 error 23\n"}, {"tick 50\nload 1\n", "line 2 error 20\n"},
			{"tick 50", "line 0 error 20\n"}, {strings.Repeat("report\n", api.MaxText/7+1), "line 0 error 2\n"}, {"tick 50\nsolve 8 0" + strings.Repeat(" 1", api.MaxDraws+1) + "\n", "line 2 error 3\n"}, {loading(t, oneSheet) + "sing\n", "line 9 error 50\n"}, {strings.Repeat("add 2\n", 12) + " \n", "line 13 error 21\n"},
		} {
			answers(t, s, c.text, c.want)
			if is := stateOf(s); !is.same(was) {
				t.Errorf("%.100q: %+v, not %+v", c.text, is, was)
			}
		}
	}
}

// P28.1: the book is the session's, so that what befalls it elsewhere befalls the session.
func TestBookIsTheSessions(t *testing.T) {
	s := loaded(t, twoSheet, "")
	b := s.Book()
	b.Add(2)
	answers(t, s, "tickets\nadd 1\n", "2 unserved\nok\n")
	if s.Book() != b || !slices.Equal(b.List(), []int{1, 2}) {
		t.Errorf("%v", b.List())
	}
}

// P28.2: what is reported is the plan's text, and what is told on tickets that of its lines.
func TestWhatIsTold(t *testing.T) {
	s := loaded(t, twoSheet, "add 1\nadd 2\nsolve 8 0\ntick 2\n")
	readBack(t, s)
	want := []ticket.Line{{ID: 1, Car: 0, Pick: 1, Drop: 3, Ride: 2, Served: true}, {ID: 2, Car: 0, Pick: 2, Drop: 4, Ride: 2, Served: true}}
	if lines, _, _ := ticket.Parse(s.Run("tickets\n")); !slices.Equal(lines, want) {
		t.Errorf("%+v", lines)
	}
}

// readBack holds that what a session tells is read back as what it is.
func readBack(t *testing.T, s *session.Session) {
	t.Helper()
	b := s.Book()
	report, e := s.Do(verb.Command{Kind: verb.Report})
	p, _, wrong := file.Parse(report)
	if e != api.OK || wrong != api.OK || !plan.Same(p, b.Plan()) {
		t.Fatalf("%q, %d: %+v, %d, not %+v", report, e, p, wrong, b.Plan())
	}
	tickets, e := s.Do(verb.Command{Kind: verb.Tickets})
	lines, _, wrong := ticket.Parse(tickets)
	if e != api.OK || wrong != api.OK || !slices.Equal(lines, ticket.Of(b.Instance(), b.Plan(), b.List())) {
		t.Fatalf("%q, %d: %+v, %d", tickets, e, lines, wrong)
	}
	var ids []int
	for _, l := range lines {
		ids = append(ids, l.ID)
		if l.Served == slices.Contains(b.Plan().Left, l.ID) {
			t.Fatalf("%+v: left are %v", l, b.Plan().Left)
		}
	}
	if !slices.Equal(ids, b.List()) {
		t.Fatalf("tickets of %v, but %v have booked", ids, b.List())
	}
}
