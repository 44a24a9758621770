package solve_test

import (
	"math"
	"slices"
	"testing"

	"jitney/api"
	"jitney/book"
	"jitney/insert"
	"jitney/inst"
	"jitney/plan"
	"jitney/solve"
)

// lying is an instance of requests from place to place on a line, one seat each, with cars of so many seats; nothing else holds anybody.
func lying(seats []int, places ...[2]float64) api.Instance {
	n := len(places)
	x := api.Instance{Rides: slices.Repeat([]int64{1000}, n), Stops: make([]api.Stop, 2*n+2)}
	for _, many := range seats {
		x.Cars = append(x.Cars, api.Car{Cap: api.Load{Seats: many}, Max: 1000})
	}
	for i := range x.Stops {
		x.Stops[i].Late = 1000
	}
	for i, p := range places {
		x.Stops[1+i].Spot, x.Stops[1+n+i].Spot = complex(p[0], 0), complex(p[1], 0)
		x.Stops[1+i].Load.Seats, x.Stops[1+n+i].Load.Seats = 1, -1
	}
	return x
}

// two is two requests on a line, from 1 to 3 and from 2 to 4, with cars of so many seats.
func two(seats ...int) api.Instance {
	return lying(seats, [2]float64{1, 3}, [2]float64{2, 4})
}

// oneWay is two on a line, the end's depot behind both, so that but one order is the cheapest.
func oneWay(seats ...int) api.Instance {
	x := two(seats...)
	x.Stops[5].Spot = 5
	return x
}

// many is so many requests on a line, each from a place to the next one, with a car for all.
func many(n int) api.Instance {
	places := make([][2]float64, n)
	for i := range places {
		places[i] = [2]float64{float64(i + 1), float64(i + 2)}
	}
	return lying([]int{n}, places...)
}

// backwards is a row of n requests of which the last one is driven first, but for those of a row's beginning.
func backwards(n int, begin ...int) []int {
	row := append([]int{0}, begin...)
	for request := n; request > 0; request-- {
		if !slices.Contains(begin, request) {
			row = append(row, request, n+request)
		}
	}
	return append(row, 2*n+1)
}

// turned is an instance in which something is turned.
func turned(x api.Instance, turn func(x *api.Instance)) api.Instance {
	turn(&x)
	return x
}

// tour is a row, and pins at these times for its first stops.
func tour(seq []int, times ...int64) api.Tour {
	t := api.Tour{Seq: seq}
	for i, time := range times {
		t.Pins = append(t.Pins, api.Pin{At: i, Time: time})
	}
	return t
}

// rows is tours of these rows, without pins.
func rows(seqs ...[]int) []api.Tour {
	tours := make([]api.Tour, len(seqs))
	for i, seq := range seqs {
		tours[i].Seq = seq
	}
	return tours
}

func sameTour(a, b api.Tour) bool {
	return slices.Equal(a.Seq, b.Seq) && slices.Equal(a.Pins, b.Pins)
}

func sameTours(a, b []api.Tour) bool {
	return slices.EqualFunc(a, b, sameTour)
}

// P26.1: the rest, rising, each once: of whatever row, with whatever pins.
func TestRest(t *testing.T) {
	x, full := two(2), []int{0, 2, 1, 4, 3, 5}
	for _, c := range []struct {
		what string
		x    api.Instance
		t    api.Tour
		want []int
	}{
		{"nothing frozen", x, tour(full), []int{1, 2}}, {"the depot frozen", x, tour(full, 0), []int{1, 2}}, {"one on board", x, tour(full, 0, 2), []int{1, 2}},
		{"both on board", x, tour(full, 0, 2, 3), []int{1, 2}}, {"one dropped", x, tour(full, 0, 2, 3, 6), []int{1}}, {"both dropped", x, tour(full, 0, 2, 3, 6, 7), nil},
		{"all frozen", x, tour(full, 0, 2, 3, 6, 7, 10), nil}, {"more pins than stops", x, tour(full, 0, 2, 3, 6, 7, 10, 11), nil},
		{"many more pins", x, api.Tour{Seq: full, Pins: make([]api.Pin, 1000)}, nil}, {"pins at other places", x, api.Tour{Seq: full, Pins: []api.Pin{{At: 5}, {At: 9}, {At: -1}, {At: 4}}}, []int{1}},
		{"idle", x, tour([]int{0, 5}), nil}, {"idle but pinned", x, tour([]int{0, 5}, 3), nil}, {"no row", x, api.Tour{}, nil}, {"no row but pins", x, tour(nil, 1, 2), nil},
		{"one alone", x, tour([]int{0, 2, 4, 5}), []int{2}}, {"a pickup alone", x, tour([]int{0, 2, 5}), []int{2}}, {"a drop alone", x, tour([]int{0, 3, 5}), []int{1}},
		{"twice", x, tour([]int{0, 2, 2, 1, 4, 2, 5}), []int{1, 2}}, {"twice, once frozen", x, tour([]int{0, 2, 2, 5}, 0, 2), []int{2}}, {"no such stops", x, tour([]int{-1, 6, 99, 5, 0, math.MinInt, math.MaxInt, 3}), []int{1}},
		{"of nothing", api.Instance{}, tour(full), nil}, {"of an instance without cars", two(), tour(full), []int{1, 2}},
		{"of fewer requests", turned(x, func(x *api.Instance) { x.Rides = x.Rides[:1] }), tour([]int{0, 3, 2, 4, 5}), []int{1}},
	} {
		if got := solve.Rest(c.x, c.t); !slices.Equal(got, c.want) {
			t.Errorf("%s: %v, not %v", c.what, got, c.want)
		}
	}
	if got := solve.Rest(many(20), tour(backwards(20), 0)); len(got) != 20 || !slices.IsSorted(got) {
		t.Errorf("of twenty: %v", got)
	}
}

// settling is what Settle and Settled are asked, and the row that is wanted: none, if the tour is settled.
type settling struct {
	what  string
	x     api.Instance
	car   int
	t     api.Tour
	clock int64
	k     int
	want  []int
}

func (c settling) tell(t *testing.T) {
	t.Helper()
	want := api.Tour{Seq: c.want, Pins: c.t.Pins}
	if c.want == nil {
		want = c.t
	}
	got, ok := solve.Settle(c.x, c.car, c.t, c.clock, c.k)
	if ok != (c.want != nil) || !sameTour(got, want) {
		t.Errorf("%s: %+v, %v, not %+v", c.what, got, ok, want)
	}
	if is := solve.Settled(c.x, c.car, c.t, c.clock, c.k); is != (c.want == nil) {
		t.Errorf("%s: settled: %v", c.what, is)
	}
	if c.want == nil {
		return
	}
	if !insert.Right(c.x, c.car, got, c.clock) || insert.Cost(c.x, got) >= insert.Cost(c.x, c.t) {
		t.Errorf("%s: %+v isn't right, or isn't cheaper", c.what, got)
	}
	if !solve.Settled(c.x, c.car, got, c.clock, c.k) {
		t.Errorf("%s: %+v isn't settled itself", c.what, got)
	}
}

// P26.1: a tour goes in the cheapest order that is right, if that is cheaper.
func TestSettle(t *testing.T) {
	x := two(2)
	bad, best, after := []int{0, 2, 1, 3, 4, 5}, []int{0, 1, 2, 3, 4, 5}, []int{0, 1, 3, 2, 4, 5}
	alike := lying([]int{2}, [2]float64{1, 3}, [2]float64{1, 3})
	for _, c := range []settling{
		{"in a bad order", x, 0, tour(bad), 0, 2, best}, {"one after the other", x, 0, tour(after), 0, 8, best}, {"in the best order", x, 0, tour(best), 0, 2, nil},
		{"alone", x, 0, tour([]int{0, 1, 3, 5}), 0, 1, nil}, {"idle", x, 0, tour([]int{0, 5}), 0, 8, nil}, {"idle, too late", x, 0, tour([]int{0, 5}), math.MaxInt64, 8, nil},
		{"as cheap as any", alike, 0, tour([]int{0, 2, 1, 4, 3, 5}), 0, 2, nil}, {"of as cheap ones the first", alike, 0, tour([]int{0, 2, 4, 1, 3, 5}), 0, 2, best},
		{"the depot frozen", x, 0, tour(bad, 3), 3, 2, best}, {"one on board", x, 0, tour(after, 3, 4), 4, 2, best}, {"the wrong one on board", x, 0, tour(bad, 0, 2), 2, 2, nil},
		{"one dropped", lying([]int{3}, [2]float64{1, 2}, [2]float64{3, 5}, [2]float64{4, 6}), 0, tour([]int{0, 1, 4, 3, 2, 5, 6, 7}, 0, 1, 2), 2, 2, []int{0, 1, 4, 2, 3, 5, 6, 7}},
		{"dropped in a bad order", x, 0, tour([]int{0, 1, 2, 4, 3, 5}, 0, 1, 2), 2, 2, nil}, {"dropped far off first", lying([]int{2}, [2]float64{1, 4}, [2]float64{2, -1}), 0, tour([]int{0, 1, 2, 4, 3, 5}, 0, 1, 2), 2, 2, []int{0, 1, 2, 3, 4, 5}},
		{"all but the end frozen", x, 0, tour(bad, 0, 2, 3, 5, 6), 6, 8, nil}, {"all frozen", x, 0, tour(bad, 0, 2, 3, 5, 6, 10), 10, 8, nil},
		{"the last clock", x, 0, tour(bad), 990, 2, best},
		{"the second car", two(1, 2), 1, tour(bad), 0, 2, best},
		{"without requests", lying([]int{1}), 0, tour([]int{0, 1}), 0, 8, nil},
	} {
		c.tell(t)
	}
}

// P26.1: what is cheaper isn't told, if it isn't right: seats, windows, rides, the day, pins and the clock are asked.
func TestSettleAsksWhatHolds(t *testing.T) {
	bad, best, after, other := []int{0, 2, 1, 3, 4, 5}, []int{0, 1, 2, 3, 4, 5}, []int{0, 1, 3, 2, 4, 5}, []int{0, 2, 4, 1, 3, 5}
	with := func(turn func(x *api.Instance)) api.Instance { return turned(two(2), turn) }
	early := with(func(x *api.Instance) { x.Stops[1].Late = 900 })
	for _, c := range []settling{
		{"one seat", two(1), 0, tour(after), 0, 2, nil}, {"one seat, the dearer way", two(1), 0, tour(other), 0, 2, after},
		{"the second one early", with(func(x *api.Instance) { x.Stops[2].Late = 2; x.Stops[1].Early = 3 }), 0, tour(bad), 0, 2, nil},
		{"no ride but alone", with(func(x *api.Instance) { x.Rides = []int64{2, 2}; x.Stops[2].Service = 1 }), 0, tour(after), 0, 2, nil},
		{"no ride but alone, the dearer way", with(func(x *api.Instance) { x.Rides = []int64{2, 2}; x.Stops[2].Service = 1 }), 0, tour(other), 0, 2, after},
		{"a long wait", with(func(x *api.Instance) { x.Cars[0].Max = 15; x.Stops[1].Early, x.Stops[4].Late = 20, 20 }), 0, tour([]int{0, 2, 4, 1, 3, 5}), 0, 2, nil},
		{"a clock ahead of that", early, 0, tour(bad), 897, 2, best}, {"a clock at which another one is too late", early, 0, tour(after), 899, 2, best},
		{"a pin ahead of that", early, 0, tour(bad, 0), 897, 2, best}, {"a pin at which one is too late", with(func(x *api.Instance) { x.Stops[2].Late = 902; x.Stops[1].Service = 1 }), 0, tour(bad, 900), 900, 2, nil},
		{"a clock at which the cheaper one is too late", with(func(x *api.Instance) { x.Stops[2].Late = 902; x.Stops[1].Service = 1 }), 0, tour(bad), 900, 2, nil},
		{"a clock at which it isn't", with(func(x *api.Instance) { x.Stops[2].Late = 902; x.Stops[1].Service = 1 }), 0, tour(bad), 899, 2, best},
	} {
		if !insert.Right(c.x, c.car, c.t, c.clock) {
			t.Errorf("%s: isn't right", c.what)
		}
		c.tell(t)
	}
}

// P26.1: a tour that isn't right is settled, and so is each for a k that is none, or less than its rest.
func TestSettledAsItIs(t *testing.T) {
	x := two(2)
	bad := []int{0, 2, 1, 3, 4, 5}
	list := []settling{
		{"too late", x, 0, tour(bad), 991, 2, nil}, {"the clock below 0", x, 0, tour(bad), -1, 2, nil}, {"the clock too great", x, 0, tour(bad), api.MaxTime + 1, 2, nil},
		{"no such car", x, 1, tour(bad), 0, 2, nil}, {"a car below 0", x, -1, tour(bad), 0, 2, nil}, {"another car", two(2, 1), 1, tour(bad), 0, 2, nil},
		{"no drop", x, 0, tour([]int{0, 2, 1, 3, 5}), 0, 2, nil}, {"a drop first", x, 0, tour([]int{0, 4, 2, 1, 3, 5}), 0, 2, nil}, {"a stop twice", x, 0, tour([]int{0, 2, 1, 1, 3, 4, 5}), 0, 2, nil},
		{"no end", x, 0, tour([]int{0, 2, 1, 3, 4}), 0, 2, nil}, {"no start", x, 0, tour([]int{2, 1, 3, 4, 5}), 0, 2, nil}, {"no row", x, 0, api.Tour{}, 0, 2, nil}, {"pins alone", x, 0, tour(nil, 0, 1), 0, 2, nil},
		{"more pins than stops", x, 0, tour(bad, 0, 2, 3, 5, 6, 10, 11), 0, 2, nil}, {"pins too near", x, 0, tour(bad, 0, 1), 0, 2, nil}, {"a pin below 0", x, 0, tour(bad, -1), 0, 2, nil},
		{"a pin elsewhere", x, 0, api.Tour{Seq: bad, Pins: []api.Pin{{At: 1, Time: 2}}}, 0, 2, nil}, {"pins the other way", x, 0, api.Tour{Seq: bad, Pins: []api.Pin{{At: 1, Time: 2}, {At: 0, Time: 0}}}, 0, 2, nil},
		{"of nothing", api.Instance{}, 0, tour(bad), 0, 2, nil}, {"without cars", two(), 0, tour(bad), 0, 2, nil}, {"an instance that isn't right", turned(x, func(x *api.Instance) { x.Rides = []int64{-1, 9} }), 0, tour(bad), 0, 2, nil},
	}
	for _, k := range []int{1, 0, -1, 9, 10, math.MinInt, math.MaxInt, -2} {
		list = append(list, settling{"another k", x, 0, tour(bad), 0, k, nil})
	}
	for _, c := range list {
		c.tell(t)
	}
	for k := 2; k <= 8; k++ {
		settling{"each k from 2 on", x, 0, tour(bad), 0, k, []int{0, 1, 2, 3, 4, 5}}.tell(t)
	}
}

// P26.1: eight are settled, nine aren't; who was dropped doesn't count, who is on board does.
func TestSettleOfMany(t *testing.T) {
	// straight is the cheapest order of those from a request on, behind a row's beginning: each place is gone by once.
	straight := func(n, from int, begin ...int) []int {
		row := append([]int{0}, begin...)
		for request := from; request <= n; request++ {
			row = append(row, request, n+request)
		}
		return append(row, 2*n+1)
	}
	eight, nine := many(8), many(9)
	for _, c := range []settling{
		{"eight", eight, 0, tour(backwards(8)), 0, 8, straight(8, 1)}, {"eight for seven", eight, 0, tour(backwards(8)), 0, 7, nil}, {"nine", nine, 0, tour(backwards(9)), 0, 8, nil},
		{"one of nine dropped", nine, 0, tour(backwards(9, 1, 10), 0, 1, 2), 2, 8, straight(9, 2, 1, 10)}, {"one of nine dropped, but no pin for that", nine, 0, tour(backwards(9, 1, 10), 0, 1), 2, 8, nil},
		{"one of eight on board", eight, 0, tour(backwards(8, 1, 9), 0, 1), 1, 8, straight(8, 2, 1, 9)}, {"one of eight on board, for seven", eight, 0, tour(backwards(8, 1, 9), 0, 1), 1, 7, nil},
	} {
		got, ok := solve.Settle(c.x, c.car, c.t, c.clock, c.k)
		want := c.t
		if c.want != nil {
			want.Seq = c.want
		}
		// Where one is dropped and the next one picked up both may come first.
		if ok != (c.want != nil) || insert.Cost(c.x, got) != insert.Cost(c.x, want) || !insert.Right(c.x, c.car, got, c.clock) || !slices.Equal(got.Pins, c.t.Pins) {
			t.Errorf("%s: %+v, %v, not %+v", c.what, got, ok, want)
		}
		if solve.Settled(c.x, c.car, c.t, c.clock, c.k) == ok {
			t.Errorf("%s: settled: %v", c.what, ok)
		}
	}
}

// P26.1: each error of Solve, and of two the one that is named first.
func TestSolveErrors(t *testing.T) {
	x := two(2, 2)
	fine, twice, wrong := rows([]int{0, 2, 1, 3, 4, 5}, []int{0, 5}), rows([]int{0, 1, 3, 5}, []int{0, 2, 1, 4, 3, 5}), rows([]int{0, 5}, []int{0, 1, 5})
	one, none := fine[:1], api.Instance{}
	broken := turned(two(2, 2), func(x *api.Instance) { x.Rides = []int64{9, -9} })
	for _, c := range []struct {
		what            string
		x               api.Instance
		tours           []api.Tour
		clock           int64
		k, steps, draws int
		want            api.Errno
	}{
		{"one for two cars", x, one, 0, 2, 0, 0, api.ErrArg}, {"none for two cars", x, nil, 0, 2, 0, 0, api.ErrArg}, {"three for two cars", x, append(slices.Clone(fine), fine[1]), 0, 2, 0, 0, api.ErrArg},
		{"nothing", none, nil, 0, 2, 0, 0, api.ErrArg}, {"no instance", none, fine, 0, 2, 0, 0, api.ErrArg}, {"not right", broken, fine, 0, 2, 0, 0, api.ErrArg}, {"no cars", two(), nil, 0, 2, 0, 0, api.ErrArg},
		{"one for two cars, and k", x, one, 0, 0, 0, 0, api.ErrArg}, {"not right, and steps", broken, fine, 0, 2, -1, 0, api.ErrArg}, {"not right, and draws", broken, fine, 0, 2, 0, 4097, api.ErrArg},
		{"not right, and a tour", broken, wrong, 0, 2, 0, 0, api.ErrArg}, {"one for two cars, and that isn't right", x, wrong[1:], 0, 2, 0, 0, api.ErrArg},
		{"k 0", x, fine, 0, 0, 0, 0, api.ErrRange}, {"k -1", x, fine, 0, -1, 0, 0, api.ErrRange}, {"k 9", x, fine, 0, 9, 0, 0, api.ErrRange}, {"k least", x, fine, 0, math.MinInt, 0, 0, api.ErrRange}, {"k most", x, fine, 0, math.MaxInt, 0, 0, api.ErrRange},
		{"steps -1", x, fine, 0, 2, -1, 0, api.ErrRange}, {"steps 1001", x, fine, 0, 2, 1001, 0, api.ErrRange}, {"steps least", x, fine, 0, 2, math.MinInt, 0, api.ErrRange}, {"steps most", x, fine, 0, 2, math.MaxInt, 0, api.ErrRange},
		{"draws 4097", x, fine, 0, 2, 0, 4097, api.ErrRange}, {"draws many", x, fine, 0, 2, 0, 1 << 20, api.ErrRange}, {"k, and a tour", x, wrong, 0, 9, 0, 0, api.ErrRange}, {"steps, and a tour", x, wrong, 0, 2, 1001, 0, api.ErrRange},
		{"draws, and a tour", x, wrong, 0, 2, 0, 4097, api.ErrRange}, {"k, and twice", x, twice, 0, 0, 0, 0, api.ErrRange},
		{"no drop", x, wrong, 0, 2, 0, 0, api.ErrTime}, {"no row", x, rows(nil, nil), 0, 2, 0, 0, api.ErrTime}, {"too late", x, fine, 991, 2, 0, 0, api.ErrTime}, {"the clock below 0", x, fine, -1, 2, 0, 0, api.ErrTime}, {"the clock too great", x, fine, api.MaxTime + 1, 2, 0, 0, api.ErrTime},
		{"of another car", two(2, 1), rows([]int{0, 5}, []int{0, 2, 1, 3, 4, 5}), 0, 2, 0, 0, api.ErrTime}, {"a pin too many", x, []api.Tour{tour([]int{0, 5}, 1, 1, 1), fine[1]}, 0, 2, 0, 0, api.ErrTime}, {"a pin elsewhere", x, []api.Tour{{Seq: []int{0, 5}, Pins: []api.Pin{{At: 1}}}, fine[1]}, 0, 2, 0, 0, api.ErrTime},
		{"twice, and one that isn't right", x, rows([]int{0, 1, 3, 5}, []int{0, 1, 5}), 0, 2, 0, 0, api.ErrTime}, {"twice in one", x, rows([]int{0, 1, 3, 1, 3, 5}, []int{0, 5}), 0, 2, 0, 0, api.ErrTime},
		{"twice", x, twice, 0, 2, 0, 0, api.ErrTwice}, {"both twice", x, rows(fine[0].Seq, fine[0].Seq), 0, 8, 9, 9, api.ErrTwice}, {"twice, frozen", x, []api.Tour{tour([]int{0, 1, 3, 5}, 0, 1, 3), tour([]int{0, 1, 3, 5}, 0, 1, 3)}, 3, 2, 0, 0, api.ErrTwice},
		{"all right", x, fine, 0, 2, 0, 0, api.OK}, {"the bounds", x, fine, 0, 1, 0, 4096, api.OK}, {"the other bounds", x, fine, 0, 8, 1000, 4096, api.OK}, {"the last clock", x, fine, 990, 2, 3, 0, api.OK},
		{"idle, too late", x, rows([]int{0, 5}, []int{0, 5}), math.MaxInt64, 2, 3, 0, api.OK}, {"idle, ahead of all", x, rows([]int{0, 5}, []int{0, 5}), math.MinInt64, 2, 0, 0, api.OK},
	} {
		got, e := solve.Solve(c.x, c.tours, c.clock, []int{1, 2}, c.k, c.steps, make([]int, c.draws))
		if e != c.want || e == api.OK && len(got) != len(c.tours) || e != api.OK && len(got) > 0 {
			t.Errorf("%s: %d, %v, not %d", c.what, e, got, c.want)
		}
	}
}

// P26.2: two on a line, in a bad order or not there at all, are settled by the cheaper one.
func TestSolve(t *testing.T) {
	x, best := oneWay(2), []int{0, 1, 2, 3, 4, 5}
	for _, c := range []struct {
		what   string
		t      api.Tour
		clock  int64
		booked []int
		want   []int
	}{
		{"a bad order", tour([]int{0, 2, 1, 3, 4, 5}), 0, nil, best}, {"a bad order of who has booked", tour([]int{0, 2, 4, 1, 3, 5}), 0, []int{1, 2}, best},
		{"idle", tour([]int{0, 5}), 0, []int{2, 1}, best}, {"idle, often booked", tour([]int{0, 5}), 995, []int{2, 1, 2, 2, 1, 1}, best}, {"who is none", tour([]int{0, 5}), 0, []int{0, 3, -1, math.MaxInt, math.MinInt}, []int{0, 5}},
		{"one has booked", tour([]int{0, 5}), 0, []int{2}, []int{0, 2, 4, 5}}, {"one more has booked", tour([]int{0, 2, 4, 5}), 0, []int{1}, best}, {"nobody has booked", tour([]int{0, 2, 4, 5}), 0, nil, []int{0, 2, 4, 5}},
		{"on board", tour([]int{0, 1, 3, 5}, 5, 6), 6, []int{2}, best}, {"the wrong one on board", tour([]int{0, 2, 4, 5}, 5, 7), 7, []int{1}, []int{0, 2, 1, 3, 4, 5}}, {"dropped", tour([]int{0, 2, 4, 5}, 5, 7, 9), 9, []int{1}, []int{0, 2, 4, 1, 3, 5}},
		{"idle, too late", tour([]int{0, 5}), 1001, []int{1, 2}, []int{0, 5}}, {"at its end", tour([]int{0, 2, 4, 5}, 5, 7, 9, 13), 13, []int{1}, []int{0, 2, 4, 5}},
	} {
		got, e := solve.Solve(x, []api.Tour{c.t}, c.clock, c.booked, 2, 0, nil)
		if want := (api.Tour{Seq: c.want, Pins: c.t.Pins}); e != api.OK || len(got) != 1 || !sameTour(got[0], want) {
			t.Errorf("%s: %+v, %d, not %+v", c.what, got, e, want)
		}
	}
}

// P26.2: who has no place in a bad order, and has one when that is settled, is served; and what is settled ahead of that is settled again.
func TestSolveGoesBack(t *testing.T) {
	// For the third one it takes 2 more, and in a bad order the others take 2 more, but the car may not be out for 4 more.
	x := turned(lying([]int{3}, [2]float64{1, 5}, [2]float64{2, 6}, [2]float64{3, 9}), func(x *api.Instance) { x.Cars[0].Max, x.Stops[7].Spot = 10, 8 })
	bad := []int{0, 2, 1, 4, 5, 7}
	if _, ok := insert.Best(x, 0, tour(bad), 0, 3); ok || !insert.Right(x, 0, tour(bad), 0) {
		t.Fatal("the third one has a place")
	}
	for _, steps := range []int{0, 1, 20} {
		got, e := solve.Solve(x, rows(bad), 0, []int{3}, 3, steps, []int{1})
		if e != api.OK || len(got) != 1 || !slices.Equal(got[0].Seq, []int{0, 1, 2, 3, 4, 5, 6, 7}) {
			t.Errorf("%d steps: %+v, %d", steps, got, e)
		}
	}
}

// opened is a book in which these have booked.
func opened(t *testing.T, x api.Instance, booked ...int) *book.Book {
	t.Helper()
	b, e := book.New(x)
	if e != api.OK {
		t.Fatalf("%+v: %d", x, e)
	}
	for _, request := range booked {
		must(t, "add", b.Add(request), api.OK)
	}
	return b
}

func must(t *testing.T, what string, e, want api.Errno) {
	t.Helper()
	if e != want {
		t.Fatalf("%s: %d, not %d", what, e, want)
	}
}

// planned holds a book's tours, and who is left, against what they must be.
func planned(t *testing.T, what string, b *book.Book, left []int, want ...api.Tour) {
	t.Helper()
	if got := b.Tours(); !sameTours(got, want) || !slices.Equal(b.Plan().Left, left) {
		t.Errorf("%s: %+v, %v left, not %+v, %v", what, got, b.Plan().Left, want, left)
	}
	passes(t, b)
}

// passes holds a book's plan against layer 22's Check.
func passes(t *testing.T, b *book.Book) {
	t.Helper()
	var frozen [][]api.Pin
	for _, one := range b.Tours() {
		frozen = append(frozen, one.Pins)
	}
	if e := plan.Check(b.Instance(), b.Plan(), b.Clock(), frozen, b.List()); e != api.OK {
		t.Fatalf("%+v: the plan doesn't pass: %d", b.Plan(), e)
	}
}

// P26.3: a day by hand: all who have booked are put in, at the book's clock, behind what is frozen.
func TestCommit(t *testing.T) {
	b := opened(t, oneWay(2))
	must(t, "nobody", solve.Commit(b, 2, 0, nil), api.OK)
	planned(t, "nobody", b, nil, tour([]int{0, 5}))
	must(t, "add", b.Add(1), api.OK)
	must(t, "one", solve.Commit(b, 8, 3, []int{7}), api.OK)
	planned(t, "one", b, nil, tour([]int{0, 1, 3, 5}))
	must(t, "tick", b.Tick(1), api.OK)
	must(t, "add", b.Add(2), api.OK)
	must(t, "both", solve.Commit(b, 2, 0, nil), api.OK)
	planned(t, "both", b, nil, tour([]int{0, 1, 2, 3, 4, 5}, 0, 1))
	must(t, "cancel", b.Cancel(2), api.OK)
	must(t, "without", solve.Commit(b, 2, 0, nil), api.OK)
	planned(t, "without", b, nil, tour([]int{0, 1, 3, 5}, 0, 1))
	must(t, "tick", b.Tick(999), api.OK)
	must(t, "add", b.Add(2), api.OK)
	must(t, "too late", solve.Commit(b, 2, 9, nil), api.OK)
	planned(t, "too late", b, []int{2}, tour([]int{0, 1, 3, 5}, 0, 1, 3, 5))

	b = opened(t, oneWay(2), 1, 2)
	must(t, "commit", b.Commit(rows([]int{0, 2, 4, 1, 3, 5})), api.OK)
	must(t, "k is 1", solve.Commit(b, 1, 0, nil), api.OK)
	must(t, "k is 2", solve.Commit(b, 2, 0, nil), api.OK)
	planned(t, "a bad order", b, nil, tour([]int{0, 1, 2, 3, 4, 5}))
	must(t, "tick", b.Tick(api.MaxTime), api.OK)
	must(t, "the last clock", solve.Commit(b, 2, 1000, make([]int, 4096)), api.OK)
	planned(t, "the last clock", b, nil, tour([]int{0, 1, 2, 3, 4, 5}, 0, 1, 2, 3, 4, 5))

	b = opened(t, oneWay(2), 1, 2)
	must(t, "tick", b.Tick(995), api.OK)
	must(t, "a late clock", solve.Commit(b, 2, 0, nil), api.OK)
	if p := b.Plan(); p.Times[0][0] < 995 || len(p.Left) > 0 {
		t.Errorf("a late clock: %+v", p)
	}
}

// P26.1: ErrRange alone can come of a book, and turns nothing.
func TestCommitErrors(t *testing.T) {
	b := opened(t, two(2), 1, 2)
	must(t, "commit", b.Commit(rows([]int{0, 2, 4, 1, 3, 5})), api.OK)
	must(t, "tick", b.Tick(2), api.OK)
	tours, before := b.Tours(), b.Plan()
	for _, c := range []struct{ k, steps, draws int }{{0, 0, 0}, {-1, 0, 0}, {9, 0, 0}, {math.MinInt, 0, 0}, {math.MaxInt, 0, 0}, {2, -1, 0}, {2, 1001, 0}, {2, math.MinInt, 0}, {2, math.MaxInt, 0}, {2, 0, 4097}} {
		if e := solve.Commit(b, c.k, c.steps, make([]int, c.draws)); e != api.ErrRange {
			t.Errorf("%+v: %d", c, e)
		}
		if !sameTours(b.Tours(), tours) || !plan.Same(b.Plan(), before) || b.Clock() != 2 || !slices.Equal(b.List(), []int{1, 2}) || !inst.Same(b.Instance(), two(2)) {
			t.Errorf("%+v: %+v is turned", c, b.Plan())
		}
	}
}
