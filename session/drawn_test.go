package session_test

import (
	"math"
	"math/rand/v2"
	"slices"
	"strconv"
	"strings"
	"testing"

	"jitney/api"
	"jitney/book"
	"jitney/file"
	"jitney/plan"
	"jitney/rule"
	"jitney/sched"
	"jitney/session"
	"jitney/sheet"
	"jitney/solve"
	"jitney/ticket"
	"jitney/verb"
)

// drawnSheet is the text of an instance of up to six requests, with windows, and a Matrix as often as none.
func drawnSheet(t testing.TB, draws *rand.Rand) string {
	t.Helper()
	n := draws.IntN(7)
	x := api.Instance{Rides: make([]int64, n), Stops: make([]api.Stop, 2*n+2)}
	for range 1 + draws.IntN(3) {
		x.Cars = append(x.Cars, api.Car{Cap: api.Load{Seats: 1 + draws.IntN(4), Wheels: draws.IntN(3)}, Max: 60 + draws.Int64N(300)})
	}
	matrix := draws.IntN(2) == 0
	for i := range x.Stops {
		s := &x.Stops[i]
		s.Early = draws.Int64N(90) * draws.Int64N(2)
		s.Late = s.Early + 10 + draws.Int64N(150)
		if matrix {
			x.Matrix = append(x.Matrix, nil)
			for range x.Stops {
				x.Matrix[i] = append(x.Matrix[i], draws.Int64N(15))
			}
		} else {
			s.Spot = complex(float64(draws.IntN(9)-4), float64(draws.IntN(9)-4))
		}
	}
	for i := range n {
		on := api.Load{Seats: draws.IntN(5) / 2, Wheels: draws.IntN(5) / 4}
		x.Rides[i] = 8 + draws.Int64N(100)
		x.Stops[1+i].Load, x.Stops[1+n+i].Load = on, api.Load{Seats: -on.Seats, Wheels: -on.Wheels}
		x.Stops[1+i].Service, x.Stops[1+n+i].Service = draws.Int64N(3), draws.Int64N(3)
	}
	x.Stops[0].Early, x.Stops[2*n+1].Late = 0, 500
	text, e := sheet.Print(x, draws.IntN(3))
	if e != api.OK {
		t.Fatalf("%+v: %d", x, e)
	}
	return text
}

// drawnNumber is one that may be as a rule, and any one now and then.
func drawnNumber(draws *rand.Rand, least, most int) int {
	if draws.IntN(15) == 0 {
		return []int{-1, 0, 9, 1001, api.MaxTime, api.MaxTime + 1, math.MinInt, math.MaxInt}[draws.IntN(8)]
	}
	return least + draws.IntN(most-least+1)
}

// drawnCommand is a command at a clock, one that can be done as a rule.
func drawnCommand(t testing.TB, draws *rand.Rand, clock int64) verb.Command {
	t.Helper()
	switch n := draws.IntN(60); {
	case n < 1:
		return load(drawnSheet(t, draws))
	case n < 3:
		return load([]string{"", "x\n", "jitney 0 1 0 spots\n", drawnSheet(t, draws) + "\n"}[draws.IntN(4)])
	case n < 5:
		return verb.Command{Kind: []int{-1, 0, 8, math.MinInt, math.MaxInt}[draws.IntN(5)], N: 1}
	case n < 10:
		return verb.Command{Kind: verb.Report}
	case n < 14:
		return verb.Command{Kind: verb.Tickets}
	case n < 24:
		return verb.Command{Kind: verb.Cancel, N: drawnNumber(draws, 1, 6)}
	case n < 31:
		return verb.Command{Kind: verb.Tick, Clock: clock + draws.Int64N(12) - 2}
	case n < 43:
		c := verb.Command{Kind: verb.Solve, N: drawnNumber(draws, 1, 8), Steps: drawnNumber(draws, 0, 4)}
		for range draws.IntN(4) {
			c.Draws = append(c.Draws, draws.IntN(9))
		}
		return c
	}
	return verb.Command{Kind: verb.Add, N: drawnNumber(draws, 1, 6)}
}

// model is a session, said by this test's own words: a book, and what befell it.
type model struct{ b *book.Book }

func (m *model) do(c verb.Command) (string, api.Errno) {
	if c.Kind < 1 || c.Kind > 7 {
		return "", api.ErrWord
	}
	if c.Kind == verb.Load {
		x, _, _, e := sheet.Parse(c.Text)
		if e == api.OK {
			m.b, _ = book.New(x)
		}
		return "", e
	}
	if m.b == nil {
		return "", api.ErrState
	}
	return map[int]func() (string, api.Errno){
		verb.Add:    func() (string, api.Errno) { return "", m.b.Add(c.N) },
		verb.Cancel: func() (string, api.Errno) { return "", m.b.Cancel(c.N) },
		verb.Tick:   func() (string, api.Errno) { return "", m.b.Tick(c.Clock) },
		verb.Solve:  func() (string, api.Errno) { return "", solve.Commit(m.b, c.N, c.Steps, c.Draws) },
		verb.Report: func() (string, api.Errno) { return file.Print(m.b.Plan()) },
		verb.Tickets: func() (string, api.Errno) {
			return ticket.Print(ticket.Of(m.b.Instance(), m.b.Plan(), m.b.List())), api.OK
		},
	}[c.Kind]()
}

// line is what Run must tell of a command.
func line(text string, e api.Errno) string {
	if e != api.OK {
		return "error " + strconv.Itoa(int(e)) + "\n"
	}
	if text == "" {
		return "ok\n"
	}
	return text
}

// keeps holds that what was frozen stays, in its tour, at its place and time (P4).
func keeps(t *testing.T, was, is state) {
	t.Helper()
	if was.book != is.book {
		return
	}
	for car, old := range was.tours {
		frozen, one := len(old.Pins), is.tours[car]
		if len(one.Pins) < frozen || !slices.Equal(one.Pins[:frozen], old.Pins) || !slices.Equal(one.Seq[:frozen], old.Seq[:frozen]) {
			t.Fatalf("car %d: %+v, not %+v", car, one, old)
		}
		for at, pin := range one.Pins {
			if is.plan.Times[car][at] != pin.Time {
				t.Fatalf("car %d: frozen at %+v, but planned at %v", car, one, is.plan.Times[car])
			}
		}
	}
}

// driven holds that what is planned can be driven, with times that hold, and are as short as can be (P3, P4).
func driven(t *testing.T, is state) {
	t.Helper()
	var pins [][]api.Pin
	for car, one := range is.tours {
		pins = append(pins, one.Pins)
		times := is.plan.Times[car]
		if len(times) == 0 {
			continue
		}
		r, e := sched.Plan(is.x, car, one.Seq, is.clock, one.Pins)
		if e != api.OK || times[len(times)-1]-times[0] != r.Length || !rule.Hold(is.x, car, one.Seq, is.clock, one.Pins, times) {
			t.Fatalf("car %d: %+v, times %v, but %+v, %d", car, one, times, r, e)
		}
	}
	if e := plan.Check(is.x, is.plan, is.clock, pins, is.list); e != api.OK {
		t.Fatalf("%+v: %d", is, e)
	}
}

// P28.1, P28.2, P3, P4: on drawn days each command is done as said, an error turns nothing, and what is told and planned is as it must be.
func TestDrawnDays(t *testing.T) {
	draws := rand.New(rand.NewPCG(1, 2))
	met := map[api.Errno]int{}
	frozen, served := 0, 0
	for range 300 {
		s, m := session.New(), &model{}
		if draws.IntN(10) > 0 {
			c := load(drawnSheet(t, draws))
			does(t, s, c, "", api.OK)
			m.do(c)
		}
		for range 60 {
			was := stateOf(s)
			c := drawnCommand(t, draws, was.clock)
			want, wrong := m.do(c)
			got, e := s.Do(c)
			if got != want || e != wrong {
				t.Fatalf("%+v: %q %d, not %q %d", c, got, e, want, wrong)
			}
			met[e]++
			is := stateOf(s)
			if e != api.OK && !is.same(was) {
				t.Fatalf("%+v: %d, but %+v, not %+v", c, e, is, was)
			}
			wanted := stateOf(s)
			if m.b != nil {
				wanted = state{true, is.book, m.b.Clock(), m.b.List(), m.b.Tours(), m.b.Plan(), m.b.Instance()}
			}
			if !is.same(wanted) || is.loaded != (m.b != nil) {
				t.Fatalf("%+v: %+v, not %+v", c, is, wanted)
			}
			if is.loaded {
				keeps(t, was, is)
				driven(t, is)
				readBack(t, s)
				for _, one := range is.tours {
					frozen += len(one.Pins)
				}
				served += len(plan.Served(is.x, is.plan))
			}
		}
	}
	for _, e := range []api.Errno{api.OK, api.ErrNone, api.ErrTwice, api.ErrRange, api.ErrLate, api.ErrClock, api.ErrState, api.ErrWord, api.ErrForm} {
		if met[e] < 20 {
			t.Errorf("hardly asked: %v", met)
		}
	}
	if frozen < 3000 || served < 8000 {
		t.Errorf("hardly asked: %d frozen, %d served", frozen, served)
	}
}

// P28.1, P28.3, P2: a drawn day that is written down, and run, has the answers that its commands had one by one, at once or in parts, and has them again.
func TestDrawnTexts(t *testing.T) {
	draws := rand.New(rand.NewPCG(3, 4))
	reports := 0
	for range 150 {
		one, parts := session.New(), session.New()
		whole := loading(t, drawnSheet(t, draws))
		want := one.Run(whole)
		answers(t, parts, whole, want)
		for range draws.IntN(50) {
			c := drawnCommand(t, draws, stateOf(one).clock)
			text, e := verb.Print([]verb.Command{c})
			if e != api.OK {
				continue
			}
			told := line(one.Do(c))
			answers(t, parts, text, told)
			whole, want = whole+text, want+told
		}
		for range 3 {
			answers(t, session.New(), whole, want)
		}
		answers(t, session.New(), whole+"sing\n", "line "+strconv.Itoa(1+strings.Count(whole, "\n"))+" error 50\n")
		reports += strings.Count(want, "plan ")
	}
	if reports < 200 {
		t.Errorf("hardly asked: %d reports", reports)
	}
}

// P28.3, P2: the same text has the same answers, after others too, as a load leaves nothing of what was.
func TestTheSameTextAgain(t *testing.T) {
	draws := rand.New(rand.NewPCG(5, 6))
	for range 40 {
		text := loading(t, drawnSheet(t, draws)) + "add 1\nadd 2\nadd 3\nadd 4\nsolve 8 3 1 2 3\nreport\ntick 9\nadd 5\nadd 6\ncancel 2\nsolve 3 9\nreport\ntickets\ntick 40\nsolve 8 0\nreport\n"
		first := session.New().Run(text)
		for range 3 {
			s := session.New()
			s.Run(loading(t, drawnSheet(t, draws)) + "add 1\nadd 2\nsolve 8 1\ntick 30\n")
			answers(t, s, text, first)
			answers(t, s, text, first)
		}
	}
}

// P1: of whatever texts and commands nothing panics, and Run has as many answers as there are commands.
func TestAnything(t *testing.T) {
	draws := rand.New(rand.NewPCG(7, 8))
	pieces := []string{"\n", " ", "load 1\n", "load 0\n", "add 1\n", "cancel 1\n", "tick 5\n", "tick -5\n", "solve 8 0\n", "solve 0 2 1\n", "report\n", "tickets\n", "sing\n", "x", "\xff", loading(t, twoSheet), loading(t, oneSheet), loading(t, oneSheet)}
	done := 0
	for range 3000 {
		text := ""
		for range draws.IntN(9) {
			text += pieces[draws.IntN(len(pieces))]
		}
		s := session.New()
		got := s.Run(text)
		cs, at, e := verb.Parse(text)
		if e != api.OK {
			if want := "line " + strconv.Itoa(at) + " error " + strconv.Itoa(int(e)) + "\n"; got != want {
				t.Fatalf("%q: %q, not %q", text, got, want)
			}
			continue
		}
		want, other := "", session.New()
		for _, c := range cs {
			want += line(other.Do(c))
		}
		if got != want {
			t.Fatalf("%q: %q, not %q", text, got, want)
		}
		done += len(cs)
	}
	if done < 2000 {
		t.Errorf("hardly asked: %d commands", done)
	}
	number := func() int { return drawnNumber(draws, -3, 3) }
	for range 3000 {
		s := session.New()
		for range 6 {
			c := verb.Command{Kind: draws.IntN(10) - 1, N: number(), Steps: number(), Clock: int64(number()), Text: []string{"", "x", twoSheet, oneSheet}[draws.IntN(4)]}
			for range draws.IntN(3) {
				c.Draws = append(c.Draws, number())
			}
			if text, e := s.Do(c); e != api.OK && text != "" {
				t.Fatalf("%+v: %q beside %d", c, text, e)
			}
		}
	}
}

// What is handed in isn't changed, what lies behind it neither, and isn't kept.
func TestNothingIsKept(t *testing.T) {
	s := loaded(t, twoSheet, "add 1\nadd 2\n")
	list := []int{5, 4, 3, 99}
	c := verb.Command{Kind: verb.Solve, N: 2, Steps: 3, Draws: list[:3]}
	does(t, s, c, "", api.OK)
	if !slices.Equal(list, []int{5, 4, 3, 99}) {
		t.Errorf("%v", list)
	}
	was := stateOf(s)
	clear(list)
	if is := stateOf(s); !is.same(was) {
		t.Errorf("%+v, not %+v", is, was)
	}
}
