package plan

import (
	"math"
	"slices"
	"testing"

	"jitney/api"
)

// lying is an instance of requests from place to place on a line, one seat each, with cars of so many seats; nothing else holds anybody.
func lying(seats []int, places ...[2]float64) api.Instance {
	n := len(places)
	x := api.Instance{Rides: slices.Repeat([]int64{1000}, n), Stops: make([]api.Stop, 2*n+2)}
	for _, many := range seats {
		x.Cars = append(x.Cars, api.Car{Cap: api.Load{Seats: many}, Max: 1000})
	}
	for i := range x.Stops {
		x.Stops[i].Late = 1000
	}
	for i, p := range places {
		x.Stops[1+i].Spot, x.Stops[1+n+i].Spot = complex(p[0], 0), complex(p[1], 0)
		x.Stops[1+i].Load.Seats, x.Stops[1+n+i].Load.Seats = 1, -1
	}
	return x
}

// two is two requests on a line, from 1 to 3 and from 2 to 4.
func two(seats ...int) api.Instance {
	return lying(seats, [2]float64{1, 3}, [2]float64{2, 4})
}

// four is four requests on a line, and three cars with a seat each.
func four() api.Instance {
	return lying([]int{1, 1, 1}, [2]float64{1, 3}, [2]float64{2, 4}, [2]float64{3, 5}, [2]float64{4, 6})
}

// timed is an instance with a Matrix with such a time from each stop to each other one.
func timed(x api.Instance, time int64) api.Instance {
	x.Matrix = nil
	for i := range x.Stops {
		x.Matrix = append(x.Matrix, slices.Repeat([]int64{time}, len(x.Stops)))
		x.Matrix[i][i] = 0
	}
	return x
}

// turned is an instance in which something is turned.
func turned(x api.Instance, turn func(x *api.Instance)) api.Instance {
	turn(&x)
	return x
}

func pins(times ...int64) []api.Pin {
	var list []api.Pin
	for i, time := range times {
		list = append(list, api.Pin{At: i, Time: time})
	}
	return list
}

// tour is a row, and pins at these times for its first stops.
func tour(seq []int, times ...int64) api.Tour {
	return api.Tour{Seq: seq, Pins: pins(times...)}
}

// rows is tours of these rows, without pins.
func rows(seqs ...[]int) []api.Tour {
	tours := make([]api.Tour, len(seqs))
	for i, seq := range seqs {
		tours[i].Seq = seq
	}
	return tours
}

// same is Same, said by this test's own words.
func same(a, b Plan) bool {
	if len(a.Routes) != len(b.Routes) || len(a.Times) != len(b.Times) || !slices.Equal(a.Left, b.Left) || a.Cost != b.Cost {
		return false
	}
	for i, row := range a.Routes {
		if !slices.Equal(row, b.Routes[i]) {
			return false
		}
	}
	for i, times := range a.Times {
		if !slices.Equal(times, b.Times[i]) {
			return false
		}
	}
	return true
}

// P22.1: the plans of tours, told by hand.
func TestMake(t *testing.T) {
	x := two(2, 1)
	idle, one, other, both := []int{0, 5}, []int{0, 1, 3, 5}, []int{0, 2, 4, 5}, []int{0, 1, 2, 3, 4, 5}
	waiting := turned(two(2, 1), func(x *api.Instance) { x.Stops[2].Early = 10 })
	serving := turned(two(2, 1), func(x *api.Instance) { x.Stops[1].Service, x.Stops[3].Service = 1, 2 })
	far := lying([]int{4}, [2]float64{0, api.MaxCoord})
	for _, c := range []struct {
		what   string
		x      api.Instance
		tours  []api.Tour
		clock  int64
		booked []int
		times  [][]int64
		left   []int
		cost   int64
	}{
		{"nobody", x, rows(idle, idle), 0, nil, [][]int64{nil, nil}, nil, 0}, {"nobody is served", x, rows(idle, idle), 0, []int{1, 2}, [][]int64{nil, nil}, []int{1, 2}, 0},
		{"in whichever order, as often as may be", x, rows(idle, idle), 0, []int{2, 1, 2, 2, 1}, [][]int64{nil, nil}, []int{1, 2}, 0}, {"none that isn't", x, rows(idle, idle), 0, []int{0, 3, 2, -1, 5, math.MinInt, math.MaxInt}, [][]int64{nil, nil}, []int{2}, 0},
		{"one", x, rows(one, idle), 0, []int{1}, [][]int64{{0, 1, 3, 6}, nil}, nil, 6}, {"one, by the other car", x, rows(idle, one), 0, []int{1, 2}, [][]int64{nil, {0, 1, 3, 6}}, []int{2}, 6}, {"one of two", x, rows(other, idle), 0, []int{2, 1}, [][]int64{{0, 2, 4, 8}, nil}, []int{1}, 8},
		{"who hasn't booked may stand", x, rows(one, idle), 0, nil, [][]int64{{0, 1, 3, 6}, nil}, nil, 6}, {"so may others", x, rows(one, other), 0, []int{2}, [][]int64{{0, 1, 3, 6}, {0, 2, 4, 8}}, nil, 14},
		{"two apart", x, rows(one, other), 0, []int{2, 1}, [][]int64{{0, 1, 3, 6}, {0, 2, 4, 8}}, nil, 14}, {"two the other way", x, rows(other, one), 0, []int{2, 1}, [][]int64{{0, 2, 4, 8}, {0, 1, 3, 6}}, nil, 14}, {"two together", x, rows(both, idle), 0, []int{1, 2}, [][]int64{{0, 1, 2, 3, 4, 8}, nil}, nil, 8},
		{"at a clock", x, rows(one, other), 7, nil, [][]int64{{7, 8, 10, 13}, {7, 9, 11, 15}}, nil, 14}, {"at the last one", x, rows(idle, one), 994, nil, [][]int64{nil, {994, 995, 997, 1000}}, nil, 6},
		{"idle ones, whatever the clock", x, rows(idle, idle), -1, []int{1}, [][]int64{nil, nil}, []int{1}, 0}, {"too late for all others", x, rows(idle, idle), math.MaxInt64, nil, [][]int64{nil, nil}, nil, 0}, {"so too", x, rows(idle, idle), math.MinInt64, nil, [][]int64{nil, nil}, nil, 0},
		{"a pin", x, []api.Tour{tour(one, 4), tour(idle)}, 5, []int{1}, [][]int64{{4, 5, 7, 10}, nil}, nil, 6}, {"pins", x, []api.Tour{tour(one, 2, 9), tour(other, 1, 3, 6)}, 7, []int{1, 2}, [][]int64{{2, 9, 11, 14}, {1, 3, 6, 10}}, nil, 14}, {"all pinned", x, []api.Tour{tour(idle), tour(one, 2001, 2002, 2005, 2008)}, 30, nil, [][]int64{nil, {2001, 2002, 2005, 2008}}, nil, 6},
		{"both depots, but pinned", x, []api.Tour{tour(idle, 3), tour(idle)}, 3, nil, [][]int64{{3, 3}, nil}, nil, 0}, {"pinned, and the clock gone on", x, []api.Tour{tour(idle), tour(idle, 3)}, 9, nil, [][]int64{nil, {3, 9}}, nil, 0}, {"pinned whole", x, []api.Tour{tour(idle, 3, 4), tour(idle, 7, 7)}, 9, nil, [][]int64{{3, 4}, {7, 7}}, nil, 0},
		{"out no longer than must be", waiting, rows(both, idle), 0, []int{1, 2}, [][]int64{{8, 9, 10, 11, 12, 16}, nil}, nil, 8}, {"but it was pinned", waiting, []api.Tour{tour(both, 0), tour(idle)}, 0, nil, [][]int64{{0, 9, 10, 11, 12, 16}, nil}, nil, 8},
		{"services don't cost", serving, rows(one, idle), 0, nil, [][]int64{{0, 1, 4, 9}, nil}, nil, 6}, {"with a Matrix", timed(x, 5), rows(other, one), 1, nil, [][]int64{{1, 6, 11, 16}, {1, 6, 11, 16}}, nil, 30}, {"an idle way is driven by nobody, but told", timed(x, 5), rows(idle, idle), 0, nil, [][]int64{nil, nil}, nil, 10},
		{"an example", lying([]int{4}, [2]float64{0, 5}), rows([]int{0, 1, 2, 3}), 0, []int{1}, [][]int64{{0, 0, 5, 10}}, nil, 10}, {"far", turned(far, unbounded), rows([]int{0, 1, 2, 3}), 0, nil, [][]int64{{0, 0, api.MaxCoord, 2 * api.MaxCoord}}, nil, 2 * api.MaxCoord}, {"no requests", lying([]int{1}), rows([]int{0, 1}), 0, []int{1}, [][]int64{nil}, nil, 0},
	} {
		want := Plan{Times: c.times, Left: c.left, Cost: c.cost}
		for _, one := range c.tours {
			want.Routes = append(want.Routes, one.Seq)
		}
		if p, e := Make(c.x, c.tours, c.clock, c.booked); e != api.OK || !same(p, want) {
			t.Errorf("%s: %+v, %d; not %+v", c.what, p, e, want)
		}
	}
}

// unbounded lets all take as long as it may.
func unbounded(x *api.Instance) {
	for i := range x.Stops {
		x.Stops[i].Late = api.MaxTime
	}
	for i := range x.Rides {
		x.Rides[i] = api.MaxTime
	}
	for i := range x.Cars {
		x.Cars[i].Max = api.MaxTime
	}
}

// P22.1, P3: the times are the shortest that can be, with rides and a day that hold them.
func TestMakeTellsTheShortestTimes(t *testing.T) {
	x := lying([]int{1}, [2]float64{0, 5})
	x.Stops[1].Service, x.Stops[2].Service = 1, 1
	row := rows([]int{0, 1, 2, 3})
	for _, ride := range []int64{4, 5, 6} {
		for _, most := range []int64{11, 12, 13} {
			x.Rides[0], x.Cars[0].Max = ride, most
			p, e := Make(x, row, 0, []int{1})
			if ride < 5 || most < 12 {
				if e != api.ErrTime {
					t.Errorf("a ride of %d, a day of %d: %d", ride, most, e)
				}
			} else if e != api.OK || !slices.Equal(p.Times[0], []int64{0, 0, 6, 12}) {
				t.Errorf("a ride of %d, a day of %d: %v, %d", ride, most, p.Times, e)
			}
		}
	}
}

// P22.1: what has no plan, the first error of several.
func TestMakeRefuses(t *testing.T) {
	x := two(2, 1)
	idle, one, other, both := []int{0, 5}, []int{0, 1, 3, 5}, []int{0, 2, 4, 5}, []int{0, 1, 2, 3, 4, 5}
	for _, c := range []struct {
		what  string
		x     api.Instance
		tours []api.Tour
		clock int64
		e     api.Errno
	}{
		{"an instance of nothing", api.Instance{}, nil, 0, api.ErrArg}, {"no cars", two(), nil, 0, api.ErrArg}, {"too many cars", two(make([]int, 65)...), slices.Repeat(rows(idle), 65), 0, api.ErrArg}, {"a ride below 0", turned(x, func(x *api.Instance) { x.Rides = []int64{1000, -1} }), rows(one, idle), 0, api.ErrArg}, {"a stop too few", turned(x, func(x *api.Instance) { x.Stops = x.Stops[:5] }), rows(idle, idle), 0, api.ErrArg}, {"a Matrix too small", turned(x, func(x *api.Instance) { x.Matrix = [][]int64{nil} }), rows(idle, idle), 0, api.ErrArg},
		{"no tours", x, nil, 0, api.ErrArg}, {"a tour too few", x, rows(one), 0, api.ErrArg}, {"a tour too many", x, rows(one, idle, idle), 0, api.ErrArg}, {"no such tours, and wrong ones", x, rows([]int{0, 3, 1, 5}), 0, api.ErrArg}, {"so too, in two", x, rows(one, one, one), -1, api.ErrArg}, {"an instance that isn't right, and no tours either", turned(x, func(x *api.Instance) { x.Rides = []int64{-1, 1} }), rows(one, one), 0, api.ErrArg},
		{"the drop ahead", x, rows([]int{0, 3, 1, 5}, idle), 0, api.ErrTime}, {"no drop", x, rows(idle, []int{0, 1, 5}), 0, api.ErrTime}, {"no row", x, rows(nil, idle), 0, api.ErrTime}, {"a depot alone", x, rows(idle, []int{0}), 0, api.ErrTime}, {"no end", x, rows(idle, []int{0, 1, 3}), 0, api.ErrTime}, {"a stop twice", x, rows([]int{0, 1, 1, 3, 5}, idle), 0, api.ErrTime}, {"no such stop", x, rows([]int{0, 6, 5}, idle), 0, api.ErrTime}, {"the depots the other way", x, rows([]int{5, 0}, idle), 0, api.ErrTime},
		{"the wrong car", x, rows(idle, both), 0, api.ErrTime}, {"too late", x, rows(one, idle), 995, api.ErrTime}, {"too late for one of two", x, rows(one, other), 993, api.ErrTime}, {"no such clock", x, rows(one, idle), -1, api.ErrTime}, {"so too", x, rows(idle, one), api.MaxTime + 1, api.ErrTime},
		{"pins too near", x, []api.Tour{tour(one, 4, 4), tour(idle)}, 4, api.ErrTime}, {"pins out of order", x, []api.Tour{{Seq: one, Pins: []api.Pin{{At: 1, Time: 1}}}, tour(idle)}, 0, api.ErrTime}, {"too many pins", x, []api.Tour{tour(idle), tour(idle, 1, 2, 3)}, 0, api.ErrTime}, {"a pin below 0", x, []api.Tour{tour(idle, -1), tour(idle)}, 0, api.ErrTime}, {"pinned, and too late for the end", x, []api.Tour{tour(idle, 3), tour(idle)}, 1001, api.ErrTime},
		{"the same in two", x, rows(one, one), 0, api.ErrTwice}, {"one of two in two", x, rows(both, one), 0, api.ErrTwice}, {"the other one", x, rows(both, other), 0, api.ErrTwice}, {"in two, one of which is pinned", x, []api.Tour{tour(other, 0, 2, 4, 8), tour(other)}, 9, api.ErrTwice}, {"in two, and one isn't right", x, rows([]int{0, 1, 3, 2, 5}, one), 0, api.ErrTime}, {"in two, and too late", x, rows(one, one), 995, api.ErrTime},
	} {
		for _, booked := range [][]int{nil, {1, 2}, {7, -1}} {
			if p, e := Make(c.x, c.tours, c.clock, booked); e != c.e || !same(p, Plan{}) {
				t.Errorf("%s: %+v, %d, not %d", c.what, p, e, c.e)
			}
		}
	}
	three := four()
	if p, e := Make(three, rows([]int{0, 1, 5, 9}, []int{0, 9}, []int{0, 2, 6, 1, 5, 9}), 0, nil); e != api.ErrTwice || !same(p, Plan{}) {
		t.Errorf("in the first and the last one: %+v, %d", p, e)
	}
}

// asked is what Check is asked.
type asked struct {
	x      api.Instance
	p      Plan
	clock  int64
	pins   [][]api.Pin
	booked []int
}

func (a *asked) check() api.Errno {
	return Check(a.x, a.p, a.clock, a.pins, a.booked)
}

// fine is a plan at the clock 5: the first car has a pin, the second one none, the last one is idle, and two are left.
func fine() *asked {
	return &asked{
		x: four(),
		p: Plan{
			Routes: [][]int{{0, 1, 5, 9}, {0, 3, 7, 9}, {0, 9}},
			Times:  [][]int64{{4, 5, 7, 10}, {5, 8, 10, 15}, nil},
			Left:   []int{2, 4},
			Cost:   16,
		},
		clock: 5, pins: [][]api.Pin{pins(4), nil, nil}, booked: []int{3, 1, 4, 2, 3},
	}
}

// fault is something that is turned in a plan that is one, and the error that it has then.
type fault struct {
	what string
	turn func(a *asked)
	e    api.Errno
}

// alone is faults that can be told without others.
func alone() []fault {
	return []fault{
		{"an instance that isn't right", func(a *asked) { a.x.Rides[3] = -1 }, api.ErrArg}, {"no instance", func(a *asked) { a.x = api.Instance{} }, api.ErrArg}, {"a car too many", func(a *asked) { a.x.Cars = append(a.x.Cars, a.x.Cars[0]) }, api.ErrArg}, {"a car too few", func(a *asked) { a.x.Cars = a.x.Cars[:2] }, api.ErrArg},
		{"a row too few", func(a *asked) { a.p.Routes = a.p.Routes[:2] }, api.ErrArg}, {"a row too many", func(a *asked) { a.p.Routes = append(a.p.Routes, []int{0, 9}) }, api.ErrArg}, {"no rows", func(a *asked) { a.p.Routes = nil }, api.ErrArg}, {"times too few", func(a *asked) { a.p.Times = a.p.Times[:2] }, api.ErrArg}, {"times too many", func(a *asked) { a.p.Times = append(a.p.Times, nil) }, api.ErrArg}, {"pins too few", func(a *asked) { a.pins = a.pins[:2] }, api.ErrArg}, {"pins too many", func(a *asked) { a.pins = append(a.pins, nil) }, api.ErrArg}, {"no pins", func(a *asked) { a.pins = nil }, api.ErrArg},
		{"a time too early", func(a *asked) { a.p.Times[1] = []int64{5, 7, 10, 15} }, api.ErrTime}, {"ahead of the clock", func(a *asked) { a.p.Times[1] = []int64{4, 8, 10, 15} }, api.ErrTime}, {"ahead of the pin", func(a *asked) { a.p.Times[0] = []int64{3, 5, 7, 10} }, api.ErrTime}, {"behind the pin", func(a *asked) { a.p.Times[0] = []int64{5, 6, 8, 11} }, api.ErrTime}, {"the last one too early", func(a *asked) { a.p.Times[0] = []int64{4, 5, 7, 9} }, api.ErrTime}, {"too late", func(a *asked) { a.p.Times[1] = []int64{5, 8, 10, 1001} }, api.ErrTime}, {"below 0", func(a *asked) { a.p.Times[1] = []int64{-1, 8, 10, 15} }, api.ErrTime}, {"a time too few", func(a *asked) { a.p.Times[1] = []int64{5, 8, 10} }, api.ErrTime}, {"a time too many", func(a *asked) { a.p.Times[1] = []int64{5, 8, 10, 15, 20} }, api.ErrTime}, {"no times", func(a *asked) { a.p.Times[1] = nil }, api.ErrTime}, {"no times of a pinned one", func(a *asked) { a.p.Times[0] = nil }, api.ErrTime},
		{"an idle one with times", func(a *asked) { a.p.Times[2] = []int64{5, 5} }, api.ErrTime}, {"an idle one with a time", func(a *asked) { a.p.Times[2] = []int64{5} }, api.ErrTime}, {"a pinned one without", func(a *asked) { a.pins[2] = pins(5) }, api.ErrTime}, {"another pin", func(a *asked) { a.pins[0] = pins(3) }, api.ErrTime}, {"a pin at no place", func(a *asked) { a.pins[1] = []api.Pin{{At: 4, Time: 5}} }, api.ErrTime}, {"a pin at a place below 0", func(a *asked) { a.pins[2] = []api.Pin{{At: -1, Time: 5}} }, api.ErrTime}, {"two pins of one place", func(a *asked) { a.pins[0] = append(a.pins[0], a.pins[0][0]) }, api.ErrTime},
		{"a later clock", func(a *asked) { a.clock = 6 }, api.ErrTime}, {"no such clock", func(a *asked) { a.clock = -1 }, api.ErrTime}, {"so too", func(a *asked) { a.clock = api.MaxTime + 1 }, api.ErrTime},
		{"no drop", func(a *asked) { a.p.Routes[1] = []int{0, 3, 1, 9} }, api.ErrTime}, {"the drop ahead", func(a *asked) { a.p.Routes[1] = []int{0, 7, 3, 9} }, api.ErrTime}, {"no row at all", func(a *asked) { a.p.Routes[2] = nil }, api.ErrTime}, {"a depot alone", func(a *asked) { a.p.Routes[2] = []int{0} }, api.ErrTime}, {"the depots the other way", func(a *asked) { a.p.Routes[2] = []int{9, 0} }, api.ErrTime}, {"no such stop", func(a *asked) { a.p.Routes[2] = []int{0, 10, 9} }, api.ErrTime}, {"a car without a seat", func(a *asked) { a.x.Cars[1].Cap.Seats = 0 }, api.ErrTime}, {"too long a day", func(a *asked) { a.x.Cars[1].Max = 9 }, api.ErrTime}, {"too long a ride", func(a *asked) { a.x.Rides[2] = 1 }, api.ErrTime}, {"all at once", func(a *asked) { a.p.Times[0], a.p.Times[1] = a.p.Times[1], a.p.Times[0] }, api.ErrTime},
		{"twice in Left", func(a *asked) { a.p.Left = []int{2, 2, 4} }, api.ErrTwice}, {"twice in Left, apart", func(a *asked) { a.p.Left = []int{2, 4, 2} }, api.ErrTwice}, {"in both", func(a *asked) { a.p.Left = []int{1, 2, 4} }, api.ErrTwice}, {"so is the other one", func(a *asked) { a.p.Left = []int{2, 4, 3} }, api.ErrTwice}, {"in two rows", func(a *asked) { a.p.Routes[2], a.p.Times[2], a.p.Cost = []int{0, 1, 5, 9}, []int64{5, 6, 8, 11}, 22 }, api.ErrTwice},
		{"one who stands hasn't booked", func(a *asked) { a.booked = []int{1, 2, 4} }, api.ErrNone}, {"nor the other one", func(a *asked) { a.booked = []int{4, 3, 2} }, api.ErrNone}, {"one who is left hasn't", func(a *asked) { a.booked = []int{1, 2, 3, 3} }, api.ErrNone}, {"nobody has", func(a *asked) { a.booked = nil }, api.ErrNone}, {"one in Left who isn't", func(a *asked) { a.p.Left = []int{2, 4, 9} }, api.ErrNone}, {"so too", func(a *asked) { a.p.Left = []int{0, 2, 4} }, api.ErrNone}, {"one who has booked is in neither", func(a *asked) { a.p.Left = []int{4} }, api.ErrNone}, {"nor is the other one", func(a *asked) { a.p.Left = a.p.Left[:1] }, api.ErrNone}, {"two are in neither", func(a *asked) { a.p.Left = nil }, api.ErrNone}, {"one who stood", func(a *asked) { a.p.Routes[1], a.p.Times[1], a.p.Cost = []int{0, 9}, nil, 6 }, api.ErrNone}, {"another one instead", func(a *asked) { a.p.Left = []int{2, 5} }, api.ErrNone},
		{"cheaper than it is", func(a *asked) { a.p.Cost-- }, api.ErrSmall}, {"dearer", func(a *asked) { a.p.Cost++ }, api.ErrSmall}, {"for nothing", func(a *asked) { a.p.Cost = 0 }, api.ErrSmall}, {"as if it had been below 0", func(a *asked) { a.p.Cost = -16 }, api.ErrSmall}, {"with what is waited", func(a *asked) { a.p.Times[0][3], a.p.Cost = 11, 17 }, api.ErrSmall},
		{"falling", func(a *asked) { a.p.Left = []int{4, 2} }, api.ErrForm},
	}
}

// P22.1: what is turned in a plan that is one.
func TestCheck(t *testing.T) {
	if e := fine().check(); e != api.OK {
		t.Fatalf("%d", e)
	}
	for _, f := range alone() {
		a := fine()
		if f.turn(a); a.check() != f.e {
			t.Errorf("%s: %d, not %d", f.what, a.check(), f.e)
		}
	}
	for _, f := range []fault{
		{"each once", func(a *asked) { a.booked = []int{1, 2, 3, 4} }, api.OK}, {"each a few times", func(a *asked) { a.booked = []int{4, 4, 3, 3, 2, 2, 1, 1, 4} }, api.OK}, {"one is left", func(a *asked) { a.p.Left, a.booked = []int{2}, []int{3, 2, 1} }, api.OK}, {"nobody is left", func(a *asked) { a.p.Left, a.booked = nil, []int{3, 1} }, api.OK}, {"nobody, in an empty list", func(a *asked) { a.p.Left, a.booked = []int{}, []int{1, 3} }, api.OK},
		{"empty lists of an idle one", func(a *asked) { a.p.Times[2], a.pins[2] = []int64{}, []api.Pin{} }, api.OK}, {"an earlier clock", func(a *asked) { a.clock = 0 }, api.OK}, {"no pin, but so early", func(a *asked) { a.pins[0], a.clock = nil, 4 }, api.OK}, {"no pin, and the clock", func(a *asked) { a.pins[0] = nil }, api.ErrTime}, {"longer than must be", func(a *asked) { a.p.Times[0] = []int64{4, 900, 950, 1000} }, api.OK}, {"all later", func(a *asked) { a.p.Times[1] = []int64{6, 10, 13, 30} }, api.OK},
		{"both depots, pinned", func(a *asked) { a.pins[2], a.p.Times[2] = pins(2), []int64{2, 5} }, api.OK}, {"both pinned", func(a *asked) { a.pins[2], a.p.Times[2] = pins(2, 3), []int64{2, 3} }, api.OK}, {"pins of any places", func(a *asked) { a.pins[1] = []api.Pin{{At: 3, Time: 15}, {At: 1, Time: 8}} }, api.OK}, {"pins too near", func(a *asked) { a.pins[1], a.p.Times[1] = pins(0, 2), []int64{0, 2, 5, 10} }, api.ErrTime},
	} {
		a := fine()
		if f.turn(a); a.check() != f.e {
			t.Errorf("%s: %d, not %d", f.what, a.check(), f.e)
		}
	}
}

// P22.1: a plan of idle cars is one at whatever clock; of others it isn't.
func TestCheckOfIdleOnes(t *testing.T) {
	for _, clock := range []int64{math.MinInt64, -1, 0, 1001, api.MaxTime, api.MaxTime + 1, math.MaxInt64} {
		p := Plan{Routes: [][]int{{0, 5}}, Times: make([][]int64, 1), Left: []int{1}}
		if e := Check(two(1), p, clock, make([][]api.Pin, 1), []int{1}); e != api.OK {
			t.Errorf("at %d: %d", clock, e)
		}
		p.Cost = 7
		if e := Check(timed(two(1), 7), p, clock, make([][]api.Pin, 1), []int{1}); e != api.OK {
			t.Errorf("at %d, with a Matrix: %d", clock, e)
		}
	}
}

// P22.1: one in Left who isn't there, but is told to have booked, is told last of all.
func TestCheckOfOneWhoIsNot(t *testing.T) {
	a := fine()
	a.booked, a.p.Left = append(a.booked, 9), []int{9, 2, 4}
	if e := a.check(); e != api.ErrForm {
		t.Errorf("%d", e)
	}
	a.p.Left = []int{9, 9, 2, 4}
	if e := a.check(); e != api.ErrTwice {
		t.Errorf("twice: %d", e)
	}
}

// P1: of two faults the one is told that is named first.
func TestCheckTellsTheFirst(t *testing.T) {
	order := []api.Errno{api.ErrArg, api.ErrTime, api.ErrTwice, api.ErrNone, api.ErrSmall, api.ErrForm}
	left := func(a *asked) { a.p.Left = append([]int{4}, a.p.Left...) } // twice, falling
	last := []fault{
		{"Left is twice, and falls", left, api.ErrTwice},
		{"nobody has booked, and it falls", func(a *asked) { a.booked = nil; slices.Reverse(a.p.Left) }, api.ErrNone},
		{"the cost, and it falls", func(a *asked) { a.p.Cost++; slices.Reverse(a.p.Left) }, api.ErrSmall},
		{"nobody has booked, and the cost", func(a *asked) { a.booked = nil; a.p.Cost++ }, api.ErrNone},
		{"twice, and nobody has booked", func(a *asked) { left(a); a.booked = nil }, api.ErrTwice},
		{"twice, and the cost", func(a *asked) { left(a); a.p.Cost = 0 }, api.ErrTwice},
		{"one who isn't, behind them", func(a *asked) { a.p.Left = []int{9, 2} }, api.ErrNone},
	}
	for _, f := range last {
		a := fine()
		if f.turn(a); a.check() != f.e {
			t.Errorf("%s: %d, not %d", f.what, a.check(), f.e)
		}
	}
	for _, f := range alone() {
		for _, g := range last {
			if slices.Index(order, f.e) > 1 {
				continue
			}
			a := fine()
			g.turn(a)
			if f.turn(a); a.check() != f.e {
				t.Errorf("%s, %s: %d, not %d", f.what, g.what, a.check(), f.e)
			}
		}
	}
	a := fine()
	a.x.Rides[0], a.p.Times[1] = -1, nil
	if e := a.check(); e != api.ErrArg {
		t.Errorf("no instance, no times: %d", e)
	}
	a = fine()
	a.pins, a.p.Times[0] = a.pins[:1], nil
	if e := a.check(); e != api.ErrArg {
		t.Errorf("no pins, no times: %d", e)
	}
}

// P22.1: the same, and not the same.
func TestSame(t *testing.T) {
	base := func() Plan { return fine().p }
	for _, c := range []struct {
		what string
		a, b Plan
		want bool
	}{
		{"the same", base(), base(), true}, {"nothing", Plan{}, Plan{}, true}, {"nil and empty", Plan{}, Plan{Routes: [][]int{}, Times: [][]int64{}, Left: []int{}}, true}, {"nil rows and empty ones", Plan{Routes: [][]int{nil}, Times: [][]int64{{}}}, Plan{Routes: [][]int{{}}, Times: [][]int64{nil}}, true}, {"times of an idle one", base(), with(base(), func(p *Plan) { p.Times[2] = []int64{} }), true},
		{"something and nothing", base(), Plan{}, false}, {"an empty row and none", Plan{Routes: [][]int{nil}}, Plan{}, false}, {"empty times and none", Plan{Times: [][]int64{nil}}, Plan{}, false}, {"a 0 and none", Plan{Left: []int{0}}, Plan{}, false}, {"a cost and none", Plan{Cost: 1}, Plan{}, false},
		{"another stop", base(), with(base(), func(p *Plan) { p.Routes[1][1] = 2 }), false}, {"the last one", base(), with(base(), func(p *Plan) { p.Routes[2][1] = 8 }), false}, {"a longer row", base(), with(base(), func(p *Plan) { p.Routes[2] = []int{0, 9, 9} }), false}, {"a shorter one", base(), with(base(), func(p *Plan) { p.Routes[0] = []int{0, 1, 5} }), false}, {"no row", base(), with(base(), func(p *Plan) { p.Routes[2] = nil }), false}, {"a row more", base(), with(base(), func(p *Plan) { p.Routes = append(p.Routes, nil) }), false}, {"the other order", base(), with(base(), func(p *Plan) { slices.Reverse(p.Routes) }), false},
		{"another time", base(), with(base(), func(p *Plan) { p.Times[0][3]++ }), false}, {"the first one", base(), with(base(), func(p *Plan) { p.Times[0][0]-- }), false}, {"no times", base(), with(base(), func(p *Plan) { p.Times[1] = nil }), false}, {"some", base(), with(base(), func(p *Plan) { p.Times[2] = []int64{0} }), false}, {"times less", base(), with(base(), func(p *Plan) { p.Times = p.Times[:2] }), false}, {"times the other way", base(), with(base(), func(p *Plan) { slices.Reverse(p.Times[1]) }), false},
		{"another one left", base(), with(base(), func(p *Plan) { p.Left[1] = 3 }), false}, {"one less", base(), with(base(), func(p *Plan) { p.Left = p.Left[:1] }), false}, {"one more", base(), with(base(), func(p *Plan) { p.Left = append(p.Left, 5) }), false}, {"left the other way", base(), with(base(), func(p *Plan) { slices.Reverse(p.Left) }), false}, {"another cost", base(), with(base(), func(p *Plan) { p.Cost++ }), false}, {"the cost's negative", base(), with(base(), func(p *Plan) { p.Cost = -p.Cost }), false},
	} {
		if Same(c.a, c.b) != c.want || Same(c.b, c.a) != c.want {
			t.Errorf("%s: not %v", c.what, c.want)
		}
	}
}

func with(p Plan, turn func(p *Plan)) Plan {
	turn(&p)
	return p
}

// P22.1: who is picked up, in rows of all kinds.
func TestServed(t *testing.T) {
	x := four()
	for _, c := range []struct {
		what string
		x    api.Instance
		rows [][]int
		want []int
	}{
		{"nothing", x, nil, nil}, {"idle ones", x, [][]int{{0, 9}, nil, {}}, nil}, {"one", x, [][]int{{0, 2, 6, 9}}, []int{2}}, {"rising", x, [][]int{{0, 4, 8, 9}, {0, 3, 7, 1, 5, 9}}, []int{1, 3, 4}}, {"all", x, [][]int{{4, 3}, {2, 1}}, []int{1, 2, 3, 4}},
		{"once in a row", x, [][]int{{2, 2, 1, 2}}, []int{1, 2}}, {"once in two", x, [][]int{{0, 1, 5, 9}, {0, 1, 5, 9}, {2}, {1}}, []int{1, 2}}, {"drops are no pickups", x, [][]int{{0, 5, 6, 7, 8, 9}}, nil}, {"no such stops", x, [][]int{{-1, 10, math.MinInt, math.MaxInt, 4}, {-4, 14}}, []int{4}},
		{"no instance", api.Instance{}, [][]int{{0, 1, 2}}, nil}, {"the rides tell", api.Instance{Rides: make([]int64, 2)}, [][]int{{3, 2, 4}, {1}}, []int{1, 2}}, {"stops alone tell nothing", api.Instance{Stops: make([]api.Stop, 9)}, [][]int{{1, 2}}, nil},
	} {
		for _, p := range []Plan{{Routes: c.rows}, {Routes: c.rows, Left: []int{1, 3}, Times: [][]int64{{1}}, Cost: -7}} {
			if got := Served(c.x, p); !slices.Equal(got, c.want) {
				t.Errorf("%s: %v, not %v", c.what, got, c.want)
			}
		}
	}
}

// P1: of many rows, of many requests, and of long lists all ends soon.
func TestMany(t *testing.T) {
	const n = 1 << 18
	x := api.Instance{Rides: make([]int64, n)}
	p := Plan{Routes: make([][]int, n)}
	for i := range p.Routes {
		p.Routes[i] = []int{n - i}
	}
	if got := Served(x, p); len(got) != n || got[0] != 1 || !slices.IsSorted(got) {
		t.Errorf("%d are served", len(got))
	}
	booked := slices.Repeat([]int{2, 1, 2}, n)
	q, e := Make(two(1), rows([]int{0, 1, 3, 5}), 0, booked)
	if e != api.OK || !slices.Equal(q.Left, []int{2}) {
		t.Errorf("%v are left, %d", q.Left, e)
	}
	if e := Check(two(1), q, 0, [][]api.Pin{nil}, booked); e != api.OK {
		t.Errorf("%d", e)
	}
	q.Left = slices.Repeat([]int{2}, n)
	if e := Check(two(1), q, 0, [][]api.Pin{nil}, booked); e != api.ErrTwice {
		t.Errorf("%d", e)
	}
}

// P22.1, P22.2: as many cars as may be, and one with as many stops.
func TestTheMost(t *testing.T) {
	const n = api.MaxStops/2 - 1
	x := lying(slices.Repeat([]int{1}, api.MaxCars), make([][2]float64, n)...)
	unbounded(&x)
	tours := slices.Repeat(rows([]int{0, 2*n + 1}), api.MaxCars)
	var long, all []int
	for request := 1; request <= n; request++ {
		long, all = append(long, request, n+request), append(all, request)
	}
	for i := range x.Stops[:n+1] {
		x.Stops[i].Spot = complex(float64(i%7), 0)
	}
	tours[63].Seq = slices.Concat([]int{0}, long, []int{2*n + 1})
	p, e := Make(x, tours, 9, all)
	if e != api.OK || len(p.Times[63]) != api.MaxStops || len(p.Left) != 0 || len(Served(x, p)) != n {
		t.Fatalf("%d", e)
	}
	pinned := make([][]api.Pin, api.MaxCars)
	if e := Check(x, p, 9, pinned, all); e != api.OK {
		t.Errorf("%d", e)
	}
	p.Times[63][api.MaxStops-1]--
	if e := Check(x, p, 9, pinned, all); e != api.ErrTime {
		t.Errorf("too early: %d", e)
	}
}
