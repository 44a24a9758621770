package search

import (
	"math"
	"slices"
	"testing"

	"jitney/api"
	"jitney/insert"
	"jitney/inst"
	"jitney/regret"
)

// lying is an instance of requests from place to place, one seat each, with cars of so many seats; nothing else holds anybody.
func lying(seats []int, places ...[2]complex128) api.Instance {
	n := len(places)
	x := api.Instance{Rides: slices.Repeat([]int64{1000}, n), Stops: make([]api.Stop, 2*n+2)}
	for _, many := range seats {
		x.Cars = append(x.Cars, api.Car{Cap: api.Load{Seats: many}, Max: 1000})
	}
	for i := range x.Stops {
		x.Stops[i].Late = 1000
	}
	for i, p := range places {
		x.Stops[1+i].Spot, x.Stops[1+n+i].Spot = p[0], p[1]
		x.Stops[1+i].Load.Seats, x.Stops[1+n+i].Load.Seats = 1, -1
	}
	return x
}

// three is three requests on a line, and three cars with a seat each.
func three() api.Instance {
	return lying([]int{1, 1, 1}, [2]complex128{1, 3}, [2]complex128{2, 4}, [2]complex128{3, 5})
}

// timed is an instance with a Matrix with such a time from each stop to each other one.
func timed(x api.Instance, time int64) api.Instance {
	x.Matrix = nil
	for i := range x.Stops {
		x.Matrix = append(x.Matrix, slices.Repeat([]int64{time}, len(x.Stops)))
		x.Matrix[i][i] = 0
	}
	return x
}

// tour is a row, and pins at these times for its first stops.
func tour(seq []int, times ...int64) api.Tour {
	t := api.Tour{Seq: seq}
	for i, time := range times {
		t.Pins = append(t.Pins, api.Pin{At: i, Time: time})
	}
	return t
}

// rows is tours of these rows, without pins.
func rows(seqs ...[]int) []api.Tour {
	tours := make([]api.Tour, len(seqs))
	for i, seq := range seqs {
		tours[i].Seq = seq
	}
	return tours
}

func sameTour(a, b api.Tour) bool {
	return slices.Equal(a.Seq, b.Seq) && slices.Equal(a.Pins, b.Pins)
}

func sameTours(a, b []api.Tour) bool {
	return slices.EqualFunc(a, b, sameTour)
}

// cloned is tours in memory of their own.
func cloned(tours []api.Tour) []api.Tour {
	var list []api.Tour
	for _, t := range tours {
		list = append(list, api.Tour{Seq: slices.Clone(t.Seq), Pins: slices.Clone(t.Pins)})
	}
	return list
}

// ask is what Improve is asked.
type ask struct {
	x     api.Instance
	tours []api.Tour
	clock int64
	list  []int
	steps int
	draws []int
}

func (a ask) improve() ([]api.Tour, []int) {
	return Improve(a.x, a.tours, a.clock, a.list, a.steps, a.draws)
}

// stands is how many of the tours have a request's pickup.
func stands(tours []api.Tour, request int) int {
	many := 0
	for _, t := range tours {
		if slices.Contains(t.Seq, request) {
			many++
		}
	}
	return many
}

// better is Better by the chapter's words, leg by leg.
func better(x api.Instance, a, b []api.Tour) bool {
	reckon := func(tours []api.Tour) (served int, cost int64) {
		for request := 1; request <= len(x.Rides); request++ {
			served += min(stands(tours, request), 1)
		}
		for _, t := range tours {
			for i := range max(0, len(t.Seq)-1) {
				cost += inst.Travel(x, t.Seq[i], t.Seq[i+1])
			}
		}
		return served, cost
	}
	many, cost := reckon(a)
	others, theirs := reckon(b)
	return many > others || many == others && cost < theirs
}

// fine tells whether all tours are right, and no request stands in two.
func (a ask) fine() bool {
	for car, t := range a.tours {
		if car >= len(a.x.Cars) || !insert.Right(a.x, car, t, a.clock) {
			return false
		}
	}
	for request := range a.x.Rides {
		if stands(a.tours, request+1) > 1 {
			return false
		}
	}
	return true
}

// left is who is listed, and stands in none of these tours.
func (a ask) left(tours []api.Tour) []int {
	var list []int
	for _, request := range a.list {
		if request >= 1 && request <= len(a.x.Rides) && stands(tours, request) == 0 && !slices.Contains(list, request) {
			list = append(list, request)
		}
	}
	slices.Sort(list)
	return list
}

// holds asks all that the chapter says of what is answered.
func (a ask) holds(t *testing.T, got []api.Tour, left []int) {
	t.Helper()
	if want := a.left(got); !slices.Equal(left, want) {
		t.Fatalf("%+v: %v, %v left, not %v", a, got, left, want)
	}
	if !a.fine() {
		if !sameTours(got, a.tours) {
			t.Fatalf("%+v: it isn't right, but turned: %v", a, got)
		}
		return
	}
	if len(got) != len(a.tours) || better(a.x, a.tours, got) {
		t.Fatalf("%+v: it was better than %v", a, got)
	}
	for car, one := range got {
		was := a.tours[car]
		if !insert.Right(a.x, car, one, a.clock) || !slices.Equal(one.Pins, was.Pins) || !slices.Equal(one.Seq[:len(one.Pins)], was.Seq[:len(was.Pins)]) {
			t.Fatalf("%+v: tour %d isn't right, or what was frozen is turned: %v", a, car, got)
		}
	}
	for request := 1; request <= len(a.x.Rides); request++ {
		stood, now := stands(a.tours, request), stands(got, request)
		if now > 1 || stood == 1 && now == 0 || stood == 0 && now == 1 && !slices.Contains(a.list, request) {
			t.Fatalf("%+v: %d stands in %d tours: %v", a, request, now, got)
		}
	}
	for _, request := range left {
		for car := range got {
			if s, ok := insert.Best(a.x, car, got[car], a.clock, request); ok {
				t.Fatalf("%+v: %v, but %d has a place in tour %d, %v", a, got, request, car, s)
			}
		}
	}
}

// P21.1: Better, by hand.
func TestBetter(t *testing.T) {
	x := three()
	round := timed(three(), 5)
	round.Matrix[4][7] = 1
	far := timed(three(), 1<<62)
	one, two, last, idle := []int{0, 1, 4, 7}, []int{0, 2, 5, 7}, []int{0, 3, 6, 7}, []int{0, 7}
	both := []int{0, 1, 4, 2, 5, 7}
	for _, c := range []struct {
		what string
		x    api.Instance
		a, b []api.Tour
		want bool
	}{
		{"none", x, nil, nil, false}, {"idle ones", x, rows(idle), nil, false}, {"idle ones, and none", x, nil, rows(idle, idle), false}, {"nothing at all", api.Instance{}, rows(one), rows(two), false},
		{"the same", x, rows(one), rows(one), false}, {"cheaper", x, rows(one), rows(two), true}, {"dearer", x, rows(two), rows(one), false}, {"cheaper in one tour", x, rows(both), rows(one, two), true}, {"dearer in two", x, rows(two, one), rows(idle, both), false}, {"as cheap", x, rows(one, two), rows(two, one, idle), false},
		{"more, but dearer", x, rows(one, last), rows(one), true}, {"fewer, but cheaper", x, rows(one), rows(one, last), false}, {"more, and cheaper", x, rows(both), rows([]int{0, 3, 6, 3, 7}), true}, {"more, that aren't dearer", x, rows([]int{0, 1, 2, 3, 6, 5, 4, 7}), rows([]int{0, 3, 6, 0, 7}), true},
		{"twice in a row counts once", x, rows([]int{0, 1, 1, 4, 7}), rows(two), true}, {"so does twice in two", x, rows(one, one), rows(two), false}, {"twice in two, against two", x, rows(one, one), rows(one, two), false}, {"two against twice in two", x, rows(one, two), rows(one, one), true},
		{"the pickup counts", x, rows([]int{0, 1, 7}), rows([]int{0, 4, 7}), true}, {"not the drop", x, rows([]int{0, 4, 7}), rows([]int{0, 1, 7}), false}, {"no depots", x, rows([]int{1}), rows(idle), true}, {"stops that aren't", x, rows([]int{-1, 99, math.MinInt}), rows([]int{math.MaxInt}), false}, {"rows that aren't right", x, rows([]int{2, 1, 9}), rows([]int{0, 3, 2}), true}, {"more tours than cars", x, rows(idle, idle, idle, idle, one), rows(two), true},
		{"pins say nothing", x, []api.Tour{tour(one, 9, 9, 9, 9, 9)}, rows(one), false}, {"with a Matrix", round, rows(one), rows(two), true}, {"with a Matrix, dearer", round, rows(two), rows(one), false}, {"times are held", far, rows(one), rows([]int{0, 2, 5}), false}, {"a longer row of such", far, rows([]int{0, 2, 5}), rows(one), true},
		{"the instance needn't be right", api.Instance{Rides: []int64{-1}}, rows([]int{1}), rows([]int{2}), true}, {"no such requests", api.Instance{Rides: []int64{-1}}, rows([]int{2}), rows([]int{1}), false},
	} {
		if got := Better(c.x, c.a, c.b); got != c.want {
			t.Errorf("%s: %v", c.what, got)
		}
	}
}

// P1: of many tours, and of many requests, Better ends soon.
func TestBetterOfMany(t *testing.T) {
	const n = 1 << 17
	x := api.Instance{Rides: make([]int64, n)}
	a := make([]api.Tour, n)
	for i := range a {
		a[i].Seq = []int{i + 1}
	}
	if !Better(x, a, a[1:]) || Better(x, a[1:], a) || Better(x, a, a) {
		t.Error("many tours")
	}
}

// P1: a list that names all a great many times takes no longer.
func TestImproveOfALongList(t *testing.T) {
	x := lying([]int{1}, [2]complex128{1, 3}, [2]complex128{2, 4}, [2]complex128{3, 5})
	x.Stops[3].Late = 1
	a := ask{x: x, tours: rows([]int{0, 7}), list: slices.Repeat([]int{2, 9, 3, 1}, 1<<20), steps: 200}
	got, left := a.improve()
	short := a
	short.list = []int{1, 2, 3}
	want, rest := short.improve()
	if !sameTours(got, want) || !slices.Equal(left, []int{3}) || !slices.Equal(rest, left) {
		t.Errorf("%v, %v left; not %v", got, left, want)
	}
}

// answers is what Improve must answer, whatever the draws are.
type answers struct {
	what string
	a    ask
	want [][]int
	left []int
}

func (c answers) ask(t *testing.T) {
	t.Helper()
	for _, draws := range [][]int{nil, {0}, {1, 2, 3}, {-1, math.MinInt, math.MaxInt}, {7, 100, -33, 12345}} {
		a := c.a
		a.draws = draws
		want := cloned(a.tours)
		for i, seq := range c.want {
			want[i].Seq = seq
		}
		got, left := a.improve()
		if !sameTours(got, want) || !slices.Equal(left, c.left) {
			t.Errorf("%s, draws %v: %+v, %v left; not %+v, %v left", c.what, draws, got, left, want, c.left)
		}
		a.holds(t, got, left)
	}
}

// P21.1: what isn't right stays as it is, and so it does where nobody can be moved.
func TestWhatStays(t *testing.T) {
	x := three()
	wrong, lame, many := three(), three(), three()
	wrong.Rides = []int64{-1, 1000, 1000}
	lame.Cars = slices.Clone(x.Cars)
	lame.Cars[1].Cap.Seats = 0
	many.Cars = make([]api.Car, api.MaxCars+1)
	one, two, last, idle := []int{0, 1, 4, 7}, []int{0, 2, 5, 7}, []int{0, 3, 6, 7}, []int{0, 7}
	all := []int{1, 2, 3}
	for _, c := range []answers{
		{"the drop ahead", ask{x, rows([]int{0, 4, 1, 7}, idle), 0, all, 9, nil}, nil, []int{2, 3}}, {"no drop", ask{x, rows(two, []int{0, 1, 7}), 0, all, 9, nil}, nil, []int{3}}, {"a drop alone", ask{x, rows(idle, []int{0, 4, 7}), 0, all, 9, nil}, nil, all}, {"no depots", ask{x, rows([]int{1, 4}), 0, all, 9, nil}, nil, []int{2, 3}}, {"no row", ask{x, rows(nil, idle), 0, all, 9, nil}, nil, all}, {"stops that aren't", ask{x, rows([]int{0, -1, 9, 7}), 0, all, 9, nil}, nil, all},
		{"too many on board", ask{x, rows([]int{0, 1, 2, 4, 5, 7}, idle), 0, all, 9, nil}, nil, []int{3}}, {"the wrong car", ask{lame, rows(one, two, idle), 0, all, 9, nil}, nil, []int{3}}, {"the last one", ask{x, rows(idle, two, []int{0, 1, 1, 4, 7}), 0, all, 9, nil}, nil, []int{3}},
		{"in two", ask{x, rows(one, one, idle), 0, all, 9, nil}, nil, []int{2, 3}}, {"in two, behind others", ask{x, rows(two, []int{0, 3, 6, 1, 4, 7}, one), 0, all, 9, nil}, nil, nil}, {"in two, one of which is frozen", ask{x, []api.Tour{tour(one, 0, 1), tour(one)}, 0, all, 9, nil}, nil, []int{2, 3}},
		{"more tours than cars", ask{x, rows(idle, idle, idle, idle), 0, all, 9, nil}, nil, all}, {"more tours than cars, of which one serves", ask{x, rows(idle, idle, idle, one), 0, all, 9, nil}, nil, []int{2, 3}},
		{"pins out of order", ask{x, []api.Tour{{Seq: one, Pins: []api.Pin{{At: 1, Time: 1}}}}, 0, all, 9, nil}, nil, []int{2, 3}}, {"too many pins", ask{x, []api.Tour{tour(idle, 0, 0, 0)}, 0, all, 9, nil}, nil, all}, {"pins too early", ask{x, []api.Tour{tour(one, 0, 1, 2)}, 0, all, 9, nil}, nil, []int{2, 3}},
		{"too late", ask{x, rows(one, idle), 995, all, 9, nil}, nil, []int{2, 3}}, {"no such clock", ask{x, rows(one, idle), -1, all, 9, nil}, nil, []int{2, 3}}, {"no such clock, and idle tours", ask{x, rows(idle, idle), -1, all, 9, nil}, nil, all}, {"so too", ask{x, rows(idle, idle), math.MaxInt64, all, 9, nil}, nil, all}, {"too late for anybody", ask{x, rows(idle, idle), 999, all, 9, nil}, nil, all},
		{"an instance that isn't right", ask{wrong, rows(idle, idle), 0, all, 9, nil}, nil, all}, {"too many cars", ask{many, rows(idle), 0, all, 9, nil}, nil, all}, {"no cars", ask{lying(nil, [2]complex128{1, 3}), rows([]int{0, 3}), 0, all, 9, nil}, nil, []int{1}}, {"nothing at all", ask{api.Instance{}, nil, 0, all, 9, nil}, nil, nil}, {"an instance of nothing", ask{api.Instance{}, rows(one), 0, all, 9, nil}, nil, nil},
		{"no tours", ask{x, nil, 0, []int{3, 1, 3}, 9, nil}, nil, []int{1, 3}}, {"no tours, and many rides", ask{api.Instance{Rides: make([]int64, 1<<20)}, nil, 0, []int{9, 1}, api.MaxSteps, nil}, nil, []int{1, 9}},
		{"nobody is listed", ask{x, rows(idle, idle), 0, nil, 9, nil}, nil, nil}, {"nobody that is", ask{x, rows(idle, idle), 0, []int{0, 4, -1, 7, math.MinInt, math.MaxInt}, 9, nil}, nil, nil}, {"who stands", ask{x, rows(idle, one), 0, []int{1, 1}, 9, nil}, nil, nil}, {"one, the best way", ask{x, rows(one), 0, nil, 9, nil}, nil, nil},
		{"all is frozen", ask{x, []api.Tour{tour(one, 0, 1, 3, 6), tour(two, 0, 2, 4, 8), tour(idle, 5, 9)}, 0, all, 9, nil}, nil, []int{3}}, {"the pickups are", ask{x, []api.Tour{tour(one, 0, 1), tour(two, 0, 2), tour(last, 0, 3)}, 3, all, 9, nil}, nil, nil},
	} {
		c.ask(t)
	}
}

// P21.1: what comes of a few steps, by hand.
func TestWhatIsFound(t *testing.T) {
	x := three()
	one, two, both, idle := []int{0, 1, 4, 7}, []int{0, 2, 5, 7}, []int{0, 1, 4, 2, 5, 7}, []int{0, 7}
	flat := lying([]int{1, 1}, [2]complex128{1, 3}) // one request, two cars
	for _, c := range []answers{
		{"one who can be served", ask{flat, rows([]int{0, 3}), 0, []int{1}, 0, nil}, [][]int{{0, 1, 2, 3}}, nil}, {"so with steps", ask{flat, rows([]int{0, 3}), 0, []int{1}, 5, nil}, [][]int{{0, 1, 2, 3}}, nil}, {"fewer tours than cars", ask{x, rows(idle), 0, []int{2}, 5, nil}, [][]int{two}, nil},
		{"no steps: two stay apart", ask{x, rows(one, two, idle), 0, nil, 0, nil}, nil, nil}, {"steps below 0", ask{x, rows(one, two, idle), 0, nil, -5, nil}, nil, nil}, {"far below", ask{x, rows(one, two, idle), 0, nil, math.MinInt, nil}, nil, nil}, {"no steps: a bad order stays", ask{x, rows([]int{0, 2, 5, 1, 4, 7}), 0, nil, 0, nil}, nil, nil},
		{"a better place in the same tour", ask{x, rows([]int{0, 2, 5, 1, 4, 7}), 0, nil, 1, nil}, [][]int{both}, nil}, {"no tour is better", ask{x, rows(both), 0, nil, 30, nil}, nil, nil},
		{"behind what is frozen", ask{x, []api.Tour{tour(two, 0, 2, 4), tour(one)}, 0, nil, 1, nil}, [][]int{{0, 2, 5, 1, 4, 7}, idle}, nil}, {"what is frozen stays", ask{x, []api.Tour{tour([]int{0, 2, 5, 1, 4, 7}, 0, 2)}, 2, nil, 9, nil}, nil, nil},
	} {
		c.ask(t)
	}
}

// P21.1: two in two tours come together, in whichever one it is.
func TestTwoComeTogether(t *testing.T) {
	x := three()
	a := ask{x: x, tours: rows([]int{0, 1, 4, 7}, []int{0, 2, 5, 7}, []int{0, 7}), steps: 1}
	got, left := a.improve()
	a.holds(t, got, left)
	if !Better(x, got, a.tours) || regret.Cost(x, got) != 10 {
		t.Errorf("%v", got)
	}
}

// P21.1: two of two tours change them, where it is of less use that one goes.
func TestTwoChangeTheirTours(t *testing.T) {
	at := func(c complex128) [2]complex128 { return [2]complex128{c, c} }
	x := lying([]int{1, 1}, at(10), at(-10), at(11), at(-11))
	a := ask{x: x, tours: rows([]int{0, 1, 5, 2, 6, 9}, []int{0, 3, 7, 4, 8, 9}), steps: 1}
	got, left := a.improve()
	a.holds(t, got, left)
	if regret.Cost(x, got) != 44 {
		t.Errorf("%v", got)
	}
}

// P21.1: who was put in gives way to two others; who stood at first doesn't.
func TestWhoGivesWay(t *testing.T) {
	x := lying([]int{1}, [2]complex128{0, 5}, [2]complex128{10, 10}, [2]complex128{20, 20})
	x.Stops[1].Early, x.Stops[1].Late, x.Stops[1].Service = 4, 4, 15 // whoever waits for 1 is too late for the others
	x.Stops[2].Late, x.Stops[3].Late = 11, 22
	idle, one, others := []int{0, 7}, []int{0, 1, 4, 7}, []int{0, 2, 5, 3, 6, 7}
	for _, c := range []answers{
		{"no steps: who costs least", ask{x, rows(idle), 0, []int{1, 2, 3}, 0, nil}, [][]int{one}, []int{2, 3}},
		{"two instead of one", ask{x, rows(idle), 0, []int{1, 2, 3}, 1, nil}, [][]int{others}, []int{1}},
		{"with more steps", ask{x, rows(idle), 0, []int{1, 2, 3}, 40, nil}, [][]int{others}, []int{1}},
		{"who stood stays", ask{x, rows(one), 0, []int{1, 2, 3}, 40, nil}, nil, []int{2, 3}},
		{"listed or not", ask{x, rows(one), 0, []int{3, 2}, 40, nil}, nil, []int{2, 3}},
	} {
		c.ask(t)
	}
	x.Cars = append(x.Cars, x.Cars[0])
	lame := tour(idle, 0, 90) // of a car that can't come by anywhere any more
	answers{"who stood has no other place", ask{x, []api.Tour{tour(one), lame}, 0, []int{2, 3}, 40, nil}, nil, []int{2, 3}}.ask(t)
	answers{"who stood goes to another tour", ask{x, rows(one, idle, idle)[:2], 0, []int{2, 3}, 0, nil}, [][]int{one, others}, nil}.ask(t)
}

// P21.1: who stood at first goes to another tour, for one who has no place but in his; where two are left, each has but one.
func TestWhoGoesElsewhere(t *testing.T) {
	x := lying([]int{1, 1}, [2]complex128{1, 3}, [2]complex128{1, 3})
	x.Cars[0].Cap.Wheels = 1
	x.Stops[2].Load.Wheels, x.Stops[4].Load.Wheels = 1, -1
	for i := range x.Stops[1:3] {
		x.Stops[1+i].Late = 2 // nobody can be driven behind another one
	}
	one, two, idle := []int{0, 1, 3, 5}, []int{0, 2, 4, 5}, []int{0, 5}
	answers{"no steps", ask{x, rows(one, idle), 0, []int{2}, 0, nil}, nil, []int{2}}.ask(t)
	answers{"both are served", ask{x, rows(one, idle), 0, []int{2}, 1, nil}, [][]int{two, one}, nil}.ask(t)
	answers{"who is frozen stays", ask{x, []api.Tour{tour(one, 0, 1), tour(idle)}, 0, []int{2}, 9, nil}, nil, []int{2}}.ask(t)
}
