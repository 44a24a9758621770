package regret

import (
	"math"
	"slices"
	"testing"

	"jitney/api"
	"jitney/insert"
)

// lying is an instance of requests from place to place, one seat each, with such cars; nothing else holds anybody.
func lying(cars []api.Car, places ...[2]complex128) api.Instance {
	n := len(places)
	x := api.Instance{Cars: cars, Rides: slices.Repeat([]int64{1000}, n), Stops: make([]api.Stop, 2*n+2)}
	for i := range x.Stops {
		x.Stops[i].Late = 1000
	}
	for i, p := range places {
		x.Stops[1+i].Spot, x.Stops[1+n+i].Spot = p[0], p[1]
		x.Stops[1+i].Load.Seats, x.Stops[1+n+i].Load.Seats = 1, -1
	}
	return x
}

// cars is cars with so many seats, which may be out as long as they like.
func cars(seats ...int) []api.Car {
	var list []api.Car
	for _, n := range seats {
		list = append(list, api.Car{Cap: api.Load{Seats: n}, Max: 1000})
	}
	return list
}

// at is who is picked up and dropped at one spot.
func at(c complex128) [2]complex128 {
	return [2]complex128{c, c}
}

// timed is an instance with a Matrix with such a time from each stop to each other one.
func timed(x api.Instance, time int64) api.Instance {
	x.Matrix = nil
	for i := range x.Stops {
		x.Matrix = append(x.Matrix, slices.Repeat([]int64{time}, len(x.Stops)))
		x.Matrix[i][i] = 0
	}
	return x
}

// tour is a row, and pins at these times for its first stops.
func tour(seq []int, times ...int64) api.Tour {
	t := api.Tour{Seq: seq}
	for i, time := range times {
		t.Pins = append(t.Pins, api.Pin{At: i, Time: time})
	}
	return t
}

func sameTour(a, b api.Tour) bool {
	return slices.Equal(a.Seq, b.Seq) && slices.Equal(a.Pins, b.Pins)
}

// rows is tours of these rows, without pins.
func rows(seqs ...[]int) []api.Tour {
	tours := make([]api.Tour, len(seqs))
	for i, seq := range seqs {
		tours[i].Seq = seq
	}
	return tours
}

// upTo is the numbers from 1 to n.
func upTo(n int) []int {
	var list []int
	for i := range n {
		list = append(list, i+1)
	}
	return list
}

// P18.1: a tour for each car, of both depots, whatever instance and clock.
func TestStart(t *testing.T) {
	x := lying(cars(1, 2, 3), at(1), at(2))
	many := lying(make([]api.Car, api.MaxCars+9), at(1))
	odd := lying(cars(1, -1), at(1), at(2))
	odd.Stops = nil
	for _, c := range []struct {
		x    api.Instance
		many int
		end  int
	}{{x, 3, 5}, {many, 73, 3}, {odd, 2, 5}, {lying(nil, at(1)), 0, 0}, {lying(cars(1)), 1, 1}, {api.Instance{}, 0, 0}, {api.Instance{Cars: cars(1)}, 1, 1}} {
		for _, clock := range []int64{0, 1, -1, math.MinInt64, math.MaxInt64} {
			tours := Start(c.x, clock)
			if len(tours) != c.many {
				t.Errorf("%d tours, not %d", len(tours), c.many)
			}
			for _, got := range tours {
				if !sameTour(got, tour([]int{0, c.end})) {
					t.Errorf("%+v", got)
				}
			}
		}
	}
}

// P18.1: what all tours cost, whatever they are.
func TestCost(t *testing.T) {
	x := lying(cars(1), [2]complex128{1, 3}, [2]complex128{2, 4})
	for _, c := range []struct {
		tours []api.Tour
		want  int64
	}{
		{nil, 0}, {[]api.Tour{}, 0}, {rows(nil), 0}, {rows([]int{0, 5}, []int{0, 5}), 0}, {rows([]int{0, 1, 3, 5}), 6}, {rows([]int{0, 1, 3, 5}, nil, []int{0, 2, 4, 5}, []int{0, 5}), 14},
		{rows([]int{0, 1, 3, 5}, []int{0, 1, 3, 5}), 12}, {rows([]int{4, 1}, []int{0, 9, 4}, []int{-1, 2}), 3}, {[]api.Tour{tour([]int{0, 2}, 7, 90), tour([]int{2, 0}, 1)}, 4},
	} {
		if got := Cost(x, c.tours); got != c.want {
			t.Errorf("%v: %d", c.tours, got)
		}
	}
	x = timed(x, 7)
	x.Matrix[0][5], x.Matrix[5][0] = math.MaxInt64, math.MinInt64
	for _, c := range []struct {
		tours []api.Tour
		want  int64
	}{{rows([]int{0, 5, 1}, []int{0, 5}), 2*api.MaxTime + 7}, {rows([]int{0, 5}, []int{5, 0}, []int{1, 2}), 7}, {rows([]int{5, 0}, []int{5, 0, 1}), 7 - 2*api.MaxTime}} {
		if got := Cost(x, c.tours); got != c.want {
			t.Errorf("%v: %d", c.tours, got)
		}
	}
	if got := Cost(api.Instance{}, rows([]int{0, 1, 2})); got != 0 {
		t.Errorf("of nothing: %d", got)
	}
}

// P18.1: who is left, told by hand.
func TestLeft(t *testing.T) {
	x := lying(cars(1), at(1), at(2), at(3))
	few := x
	few.Stops = nil
	for _, c := range []struct {
		what       string
		x          api.Instance
		tours      []api.Tour
		list, want []int
	}{
		{"nobody", x, nil, nil, nil}, {"no tours", x, nil, []int{3, 1, 2}, []int{1, 2, 3}}, {"twice", x, rows([]int{0, 7}), []int{3, 1, 3, 1, 3}, []int{1, 3}},
		{"others", x, rows([]int{0, 7}), []int{0, 4, -1, 2, 7, math.MinInt, math.MaxInt}, []int{2}}, {"none but others", x, nil, []int{0, 4, -3}, nil},
		{"one who stands", x, rows([]int{0, 2, 5, 7}), []int{3, 2, 1}, []int{1, 3}}, {"in another tour", x, rows([]int{0, 7}, nil, []int{0, 3, 6, 7}), []int{3, 2, 1}, []int{1, 2}},
		{"in two", x, rows([]int{0, 1, 4, 7}, []int{0, 1, 4, 2, 5, 7}), []int{3, 2, 1}, []int{3}}, {"all", x, rows([]int{0, 1, 4, 7}, []int{0, 2, 3, 5, 6, 7}), []int{3, 2, 1}, nil},
		{"a pickup alone", x, rows([]int{1}), []int{1, 2}, []int{2}}, {"a drop alone", x, rows([]int{0, 4, 7}), []int{1, 2}, []int{1, 2}}, {"a frozen one", x, []api.Tour{tour([]int{0, 1, 4, 7}, 0, 1)}, []int{1, 2}, []int{2}},
		{"stops that aren't", x, rows([]int{-1, 8, 9, 0, math.MaxInt, math.MinInt, 7}), []int{1, 2}, []int{1, 2}}, {"not in the list", x, rows([]int{0, 1, 4, 7}), []int{2}, []int{2}},
		{"an instance without stops", few, rows([]int{0, 1, 4, 7}), []int{2, 1}, []int{2}}, {"nothing at all", api.Instance{}, rows([]int{0, 1}), []int{1, 0}, nil},
	} {
		if got := Left(c.x, c.tours, c.list); !slices.Equal(got, c.want) {
			t.Errorf("%s: %v, not %v", c.what, got, c.want)
		}
	}
}

// filledAs asks Fill: the rows, and who is left.
func filledAs(t *testing.T, what string, a ask, want [][]int, left ...int) {
	t.Helper()
	got, rest := Fill(a.x, a.tours, a.clock, a.list)
	same := len(got) == len(a.tours) && len(got) == len(want)
	for i := range min(len(got), len(a.tours), len(want)) {
		same = same && sameTour(got[i], api.Tour{Seq: want[i], Pins: a.tours[i].Pins})
	}
	if !same || !slices.Equal(rest, left) {
		t.Errorf("%s: %+v, %v left; not %v, %v left", what, got, rest, want, left)
	}
}

// ask is what Fill is asked.
type ask struct {
	x     api.Instance
	tours []api.Tour
	clock int64
	list  []int
}

// never is a time that is beyond all windows.
const never = 9999

// costing is frozen tours, into each of which one more request can be put, at the end: the i-th one in the j-th tour for costs[i][j]. In the j-th tour request j+1 stands; the i-th request behind these is the i-th that is to be put.
func costing(costs ...[]int64) ask {
	many := len(costs[0])
	n := many + len(costs)
	a := ask{x: timed(lying(cars(slices.Repeat([]int{9}, many)...), make([][2]complex128, n)...), never)}
	time := func(from, to int, time int64) { a.x.Matrix[from][to] = time }
	for j := range many {
		a.tours = append(a.tours, tour([]int{0, j + 1, n + j + 1, 2*n + 1}, 0, 0, 0))
		time(0, j+1, 0)
		time(j+1, n+j+1, 0)
		time(n+j+1, 2*n+1, 0)
	}
	for i := range costs {
		request := many + i + 1
		a.list = append([]int{request}, a.list...)
		for j, cost := range costs[i] {
			time(n+j+1, request, cost)
		}
		time(request, n+request, 0)
		time(n+request, 2*n+1, 0)
	}
	return a
}

// P18.1: who is put first, and where, by hand.
func TestWhoIsPutFirst(t *testing.T) {
	for _, c := range []struct {
		what  string
		costs [][]int64
		tours []int // of each request the tour; -1: it's left
	}{
		{"one", [][]int64{{4}}, []int{0}}, {"no place", [][]int64{{never, never}}, []int{-1}}, {"the cheapest tour", [][]int64{{4, 3, 5}}, []int{1}}, {"of these the first", [][]int64{{4, 3, 3}}, []int{1}},
		{"the greater regret", [][]int64{{1, 5}, {1, 6}}, []int{1, 0}}, {"of a greater regret, not who costs less", [][]int64{{1, 5}, {3, 9}}, []int{1, 0}}, {"the lesser regret behind", [][]int64{{3, 9}, {1, 5}}, []int{0, 1}},
		{"the next best ahead of the best", [][]int64{{5, 1}, {6, 1}}, []int{0, 1}}, {"the next best, not the first, nor the last", [][]int64{{9, 1, 3, 7}, {8, 1, 4, 6}}, []int{2, 1}}, {"the next best, found late", [][]int64{{8, 1, 7, 3}, {6, 1, 5, 4}}, []int{3, 1}},
		{"the next best was the best", [][]int64{{4, 9, 1}, {5, 5, 1}}, []int{0, 2}}, {"as cheap in two: no regret", [][]int64{{1, 1, 900}, {1, 2, 3}}, []int{1, 0}},
		{"in one alone", [][]int64{{1, 999}, {9, never}}, []int{1, 0}}, {"both in one alone: who costs less", [][]int64{{5, never}, {4, never}}, []int{-1, 0}}, {"both in one alone, as cheap: the lesser one", [][]int64{{4, never}, {4, never}}, []int{0, -1}},
		{"both in one alone, each in its own", [][]int64{{5, never}, {never, 4}}, []int{0, 1}}, {"of one regret who costs less", [][]int64{{4, 6}, {3, 5}}, []int{1, 0}}, {"of one regret, and as cheap: the lesser one", [][]int64{{3, 5}, {3, 5}}, []int{0, 1}},
		{"no regrets: who costs less", [][]int64{{4, 4}, {3, 3}}, []int{1, 0}}, {"who has no place", [][]int64{{never, never}, {3, 3}}, []int{-1, 0}},
		{"a regret that turns, when one is put", [][]int64{{1, 2, 9}, {1, 9, 9}, {1, 3, 4}}, []int{1, 0, 2}}, {"more than tours", [][]int64{{1, 2}, {1, 3}, {1, 9}, {2, 3}}, []int{1, -1, 0, -1}},
	} {
		a := costing(c.costs...)
		n := len(a.x.Rides)
		want, left := make([][]int, len(a.tours)), []int(nil)
		for j, t := range a.tours {
			want[j] = slices.Clone(t.Seq)
		}
		for i, j := range c.tours {
			request := len(a.tours) + i + 1
			if j < 0 {
				left = append(left, request)
			} else {
				want[j] = slices.Insert(want[j], 3, request, n+request)
			}
		}
		filledAs(t, c.what, a, want, left...)
		slices.Reverse(a.list)
		filledAs(t, c.what+", listed rising", a, want, left...)
	}
}

// P18.1: the regret of who has a place in one tour alone is beyond all costs.
func TestGreatCosts(t *testing.T) {
	a := costing([]int64{0, api.MaxTime - 1}, []int64{5, 0})
	for i, s := range a.x.Stops {
		a.x.Stops[i].Late = api.MaxTime
		a.x.Stops[i].Service = int64(max(0, s.Load.Seats)) // so that nobody can be put behind a way of MaxTime
		for j, time := range a.x.Matrix[i] {
			if time == never {
				a.x.Matrix[i][j] = api.MaxTime
			}
		}
	}
	a.x.Cars[0].Max, a.x.Cars[1].Max = api.MaxTime, api.MaxTime
	for i := range a.tours {
		a.tours[i] = tour(a.tours[i].Seq, 0, 0, 1)
	}
	a.x.Stops[4].Load.Wheels, a.x.Stops[8].Load.Wheels = 1, -1 // for which the second car has no place
	a.x.Cars[0].Cap.Wheels = 1
	a.x.Stops[7].Service = 0
	a.x.Matrix[6][3]-- // there the car leaves at 1
	filledAs(t, "great costs", a, [][]int{{0, 1, 5, 4, 8, 9}, {0, 2, 6, 3, 7, 9}})
	a.list = []int{3}
	filledAs(t, "great costs alone", a, [][]int{{0, 1, 5, 3, 7, 9}, {0, 2, 6, 9}})
}

// P18.1: between spots, by hand: costs of those that wait hang on who was put.
func TestFillByHand(t *testing.T) {
	x := lying(cars(1, 1), [2]complex128{1, 3}, [2]complex128{2, 4})
	timesUp, full := x, x
	timesUp.Rides = []int64{1000, 1}
	full.Cars = cars(0, 1)
	wrong := x
	wrong.Rides = []int64{-1, 20}
	idle := func() []api.Tour { return rows([]int{0, 5}, []int{0, 5}) }
	for _, c := range []struct {
		what string
		a    ask
		want [][]int
		left []int
	}{
		{"both in the first tour: 2 costs less there then", ask{x, idle(), 0, []int{2, 1}}, [][]int{{0, 1, 3, 2, 4, 5}, {0, 5}}, nil},
		{"one of both", ask{x, idle(), 0, []int{2}}, [][]int{{0, 2, 4, 5}, {0, 5}}, nil}, {"nobody", ask{x, idle(), 0, nil}, [][]int{{0, 5}, {0, 5}}, nil}, {"others", ask{x, idle(), 0, []int{0, 3, -1, 5, math.MaxInt, math.MinInt}}, [][]int{{0, 5}, {0, 5}}, nil},
		{"twice, and others", ask{x, idle(), 0, []int{1, 1, 9, 1, 0}}, [][]int{{0, 1, 3, 5}, {0, 5}}, nil},
		{"who stands", ask{x, rows([]int{0, 5}, []int{0, 1, 3, 5}), 0, []int{1}}, [][]int{{0, 5}, {0, 1, 3, 5}}, nil}, {"who stands in a tour that isn't right", ask{x, rows([]int{0, 5}, []int{0, 1, 5}), 0, []int{1}}, [][]int{{0, 5}, {0, 1, 5}}, nil},
		{"a drop alone doesn't stand", ask{x, rows([]int{0, 5}, []int{0, 3, 5}), 0, []int{1}}, [][]int{{0, 1, 3, 5}, {0, 3, 5}}, nil},
		{"a tour that isn't right", ask{x, rows([]int{0, 9, 5}, []int{0, 5}), 0, []int{1, 2}}, [][]int{{0, 9, 5}, {0, 1, 3, 2, 4, 5}}, nil}, {"none is", ask{x, rows([]int{5, 0}, nil), 0, []int{2, 1}}, [][]int{{5, 0}, nil}, []int{1, 2}},
		{"pins out of order", ask{x, []api.Tour{{Seq: []int{0, 5}, Pins: []api.Pin{{At: 1, Time: 3}}}}, 0, []int{1}}, [][]int{{0, 5}}, []int{1}},
		{"more tours than cars", ask{x, rows([]int{0, 5}, []int{0, 1, 3, 5}, []int{0, 5}, []int{0, 2}), 0, []int{1, 2}}, [][]int{{0, 5}, {0, 1, 3, 5}, {0, 5}, {0, 2}}, nil}, {"tours without cars take nobody", ask{full, rows([]int{0, 5}, []int{5}, []int{0, 5}), 0, []int{1, 2}}, [][]int{{0, 5}, {5}, {0, 5}}, []int{1, 2}},
		{"fewer tours than cars", ask{x, rows([]int{0, 5}), 0, []int{1, 2}}, [][]int{{0, 1, 3, 2, 4, 5}}, nil}, {"no tours", ask{x, nil, 0, []int{2, 1}}, nil, []int{1, 2}},
		{"the i-th tour is of car i", ask{full, idle(), 0, []int{1, 2}}, [][]int{{0, 5}, {0, 1, 3, 2, 4, 5}}, nil}, {"one who can't be served", ask{timesUp, idle(), 0, []int{1, 2}}, [][]int{{0, 1, 3, 5}, {0, 5}}, []int{2}},
		{"behind the frozen ones", ask{x, []api.Tour{tour([]int{0, 2, 4, 5}, 0, 2)}, 2, []int{1}}, [][]int{{0, 2, 4, 1, 3, 5}}, nil}, {"all is frozen", ask{x, []api.Tour{tour([]int{0, 2, 4, 5}, 0, 2, 4, 8)}, 2, []int{1}}, [][]int{{0, 2, 4, 5}}, []int{1}},
		{"the clock", ask{x, idle(), 994, []int{1, 2}}, [][]int{{0, 1, 3, 5}, {0, 5}}, []int{2}}, {"too late", ask{x, idle(), 995, []int{1, 2}}, [][]int{{0, 5}, {0, 5}}, []int{1, 2}}, {"no such clock", ask{x, idle(), -1, []int{1}}, [][]int{{0, 5}, {0, 5}}, []int{1}}, {"no such clock", ask{x, idle(), math.MaxInt64, []int{1}}, [][]int{{0, 5}, {0, 5}}, []int{1}},
		{"an instance that isn't right", ask{wrong, idle(), 0, []int{2, 1}}, [][]int{{0, 5}, {0, 5}}, []int{1, 2}}, {"too many cars", ask{lying(make([]api.Car, 65), at(1)), rows([]int{0, 3}), 0, []int{1}}, [][]int{{0, 3}}, []int{1}}, {"no cars", ask{lying(nil, at(1)), rows([]int{0, 3}), 0, []int{1}}, [][]int{{0, 3}}, []int{1}},
		{"nothing at all", ask{}, nil, nil},
	} {
		filledAs(t, c.what, c.a, c.want, c.left...)
	}
}

// P18.1: with a Matrix a way round may be shorter, so that who has no place has one when another one was put.
func TestWhoGetsAPlaceLater(t *testing.T) {
	x := timed(lying(cars(9), at(0), at(0)), 5)
	x.Matrix[0][2], x.Matrix[0][4] = never, never
	x.Matrix[3][2] = 1 // to 2 only by way of 1's drop, or pickup
	x.Matrix[1][2] = never
	a := ask{x, rows([]int{0, 5}), 0, []int{1, 2}}
	if s, ok := insert.Best(x, 0, a.tours[0], 0, 2); ok {
		t.Fatalf("%v", s)
	}
	filledAs(t, "by way of another one", a, [][]int{{0, 1, 3, 2, 4, 5}})
	a.list = []int{2}
	filledAs(t, "nobody is there", a, [][]int{{0, 5}}, 2)
}

// P18.1: from nothing, by hand: each car's part first, then whoever is left.
func TestSeedByHand(t *testing.T) {
	round := lying(cars(9, 9), at(10), at(-10), at(11), at(-11))
	lame, held, wrong := round, round, round
	lame.Cars, held.Cars, wrong.Cars = cars(0, 9), cars(9, 9), cars(9, -9)
	held.Cars[1].Max = 21
	two := lying(cars(1, 1), [2]complex128{1, 3}, [2]complex128{2, 4})
	few := two
	few.Stops = few.Stops[:5]
	idle := []int{0, 9}
	for _, c := range []struct {
		what  string
		x     api.Instance
		clock int64
		list  []int
		want  [][]int
		left  []int
	}{
		{"two parts", round, 0, []int{4, 3, 2, 1}, [][]int{{0, 3, 7, 1, 5, 9}, {0, 4, 8, 2, 6, 9}}, nil}, {"others, and twice", round, 0, []int{0, 4, 2, 2, 5, -1, 3, math.MinInt}, [][]int{{0, 3, 7, 2, 6, 9}, {0, 4, 8, 9}}, nil},
		{"nobody", round, 0, nil, [][]int{idle, idle}, nil}, {"one", round, 0, []int{2}, [][]int{{0, 2, 6, 9}, idle}, nil},
		{"a car without seats", lame, 0, []int{1, 2, 3, 4}, [][]int{idle, {0, 3, 7, 1, 5, 4, 8, 2, 6, 9}}, nil}, {"a short day", held, 0, []int{1, 2, 3, 4}, [][]int{{0, 4, 8, 3, 7, 1, 5, 9}, {0, 2, 6, 9}}, nil},
		{"each its own", two, 0, []int{2, 1}, [][]int{{0, 1, 3, 5}, {0, 2, 4, 5}}, nil}, {"a Matrix: the parts rise", timed(round, 7), 0, []int{4, 3, 2, 1}, [][]int{{0, 2, 6, 1, 5, 9}, {0, 4, 8, 3, 7, 9}}, nil},
		{"late", two, 993, []int{2, 1}, [][]int{{0, 1, 3, 5}, {0, 5}}, []int{2}}, {"too late", two, 995, []int{2, 1}, [][]int{{0, 5}, {0, 5}}, []int{1, 2}}, {"no such clock", two, -1, []int{1}, [][]int{{0, 5}, {0, 5}}, []int{1}}, {"no such clock", two, math.MaxInt64, []int{1}, [][]int{{0, 5}, {0, 5}}, []int{1}},
		{"an instance that isn't right", wrong, 0, []int{4, 1}, [][]int{idle, idle}, []int{1, 4}}, {"a stop too few", few, 0, []int{2, 1}, [][]int{{0, 5}, {0, 5}}, []int{1, 2}},
		{"no cars", lying(nil, at(1), at(2)), 0, []int{2, 2, 1, 9}, nil, []int{1, 2}}, {"too many cars", lying(make([]api.Car, 65), at(1)), 0, []int{1}, slices.Repeat([][]int{{0, 3}}, 65), []int{1}}, {"nothing at all", api.Instance{}, 0, []int{1}, nil, nil},
	} {
		got, left := Seed(c.x, c.clock, c.list)
		if !slices.EqualFunc(got, rows(c.want...), sameTour) || !slices.Equal(left, c.left) {
			t.Errorf("%s: %+v, %v left; not %v, %v left", c.what, got, left, c.want, c.left)
		}
	}
	one := lying(cars(1), [2]complex128{0, 3 + 4i})
	if tours, left := Seed(one, 0, []int{1}); Cost(one, tours) != 10 || len(left) != 0 {
		t.Errorf("one request, one car: %v, %v", tours, left)
	}
}
