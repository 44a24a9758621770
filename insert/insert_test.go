package insert

import (
	"math"
	"math/rand/v2"
	"slices"
	"testing"

	"jitney/api"
	"jitney/inst"
	"jitney/rule"
	"jitney/sched"
	"jitney/seqn"
)

// at is an instance of requests from place to place on a line, one seat each, with a car of so many seats; nothing else holds anybody.
func at(seats int, places ...[2]float64) api.Instance {
	n := len(places)
	x := api.Instance{Cars: []api.Car{{Cap: api.Load{Seats: seats}, Max: 1000}}, Rides: slices.Repeat([]int64{1000}, n), Stops: make([]api.Stop, 2*n+2)}
	for i := range x.Stops {
		x.Stops[i].Late = 1000
	}
	for i, p := range places {
		x.Stops[1+i].Spot, x.Stops[1+n+i].Spot = complex(p[0], 0), complex(p[1], 0)
		x.Stops[1+i].Load.Seats, x.Stops[1+n+i].Load.Seats = 1, -1
	}
	return x
}

// two is two requests on a line, from 1 to 3 and from 2 to 4.
func two() api.Instance {
	return at(2, [2]float64{1, 3}, [2]float64{2, 4})
}

// with is a Matrix with such a time from each stop to each other one.
func with(x api.Instance, time int64) api.Instance {
	x.Matrix = nil
	for i := range x.Stops {
		x.Matrix = append(x.Matrix, slices.Repeat([]int64{time}, len(x.Stops)))
		x.Matrix[i][i] = 0
	}
	return x
}

// tour is a row, and pins at these times for its first stops.
func tour(seq []int, times ...int64) api.Tour {
	t := api.Tour{Seq: seq}
	for i, time := range times {
		t.Pins = append(t.Pins, api.Pin{At: i, Time: time})
	}
	return t
}

func same(a, b api.Tour) bool {
	return slices.Equal(a.Seq, b.Seq) && slices.Equal(a.Pins, b.Pins)
}

// ask is what All and Best are asked.
type ask struct {
	x       api.Instance
	car     int
	t       api.Tour
	clock   int64
	request int
}

func (a ask) all() []Spot {
	return slices.Collect(All(a.x, a.car, a.t, a.clock, a.request))
}

// right is whether a tour is right, by the chapter's words, with layer 12's Plan.
func (a ask) right(t api.Tour) bool {
	if len(t.Pins) == 0 && slices.Equal(t.Seq, []int{0, 2*len(a.x.Rides) + 1}) {
		return seqn.Check(a.x, a.car, t.Seq) == api.OK
	}
	for i := range t.Pins {
		if i >= len(t.Seq) || t.Pins[i].At != i {
			return false
		}
	}
	_, e := sched.Plan(a.x, a.car, t.Seq, a.clock, t.Pins)
	return e == api.OK
}

// wanted is what All must tell, by all pairs there are, each asked of layer 12.
func (a ask) wanted() []Spot {
	n := len(a.x.Rides)
	if a.request < 1 || a.request > n || slices.Contains(a.t.Seq, a.request) || slices.Contains(a.t.Seq, n+a.request) || !a.right(a.t) {
		return nil
	}
	var spots []Spot
	for i := range len(a.t.Seq) {
		for j := range len(a.t.Seq) + 1 {
			seq := seqn.With(a.x, a.t.Seq, a.request, i, j)
			if len(seq) == len(a.t.Seq) || i < len(a.t.Pins) || !a.right(api.Tour{Seq: seq, Pins: a.t.Pins}) {
				continue
			}
			spots = append(spots, Spot{i, j, inst.Path(a.x, seq) - inst.Path(a.x, a.t.Seq)})
		}
	}
	return spots
}

// cheapest is the first of the least cost.
func cheapest(spots []Spot) (Spot, bool) {
	if len(spots) == 0 {
		return Spot{}, false
	}
	best := spots[0]
	for _, s := range spots {
		if s.Cost < best.Cost {
			best = s
		}
	}
	return best, true
}

// tell asks All and Best.
func (a ask) tell(t *testing.T, what string, want ...Spot) {
	t.Helper()
	if got := a.all(); !slices.Equal(got, want) {
		t.Errorf("%s: %v, not %v", what, got, want)
	}
	best, found := cheapest(want)
	if got, ok := Best(a.x, a.car, a.t, a.clock, a.request); got != best || ok != found {
		t.Errorf("%s: the best is %v, %v, not %v", what, got, ok, best)
	}
}

// P16.1: what is right, and what isn't, told by hand.
func TestRight(t *testing.T) {
	x := two()
	x.Cars = append(x.Cars, api.Car{Cap: api.Load{Seats: 1}, Max: 1000})
	full, base := []int{0, 1, 2, 3, 4, 5}, []int{0, 1, 3, 5}
	for _, c := range []struct {
		what  string
		car   int
		t     api.Tour
		clock int64
		want  bool
	}{
		{"a row", 0, tour(full), 0, true}, {"a row at the clock", 0, tour(full), 992, true}, {"too late", 0, tour(full), 993, false},
		{"two of one seat", 1, tour(full), 0, false}, {"one after the other", 1, tour([]int{0, 2, 4, 1, 3, 5}), 0, true},
		{"no such car", 2, tour(base), 0, false}, {"a car below 0", -1, tour(base), 0, false},
		{"no row", 0, api.Tour{}, 0, false}, {"no row with a pin", 0, tour(nil, 0), 0, false}, {"one depot", 0, tour([]int{0}), 0, false},
		{"a drop first", 0, tour([]int{0, 3, 1, 5}), 0, false}, {"no drop", 0, tour([]int{0, 1, 5}), 0, false}, {"no end", 0, tour([]int{0, 1, 3}), 0, false},
		{"a stop twice", 0, tour([]int{0, 1, 1, 3, 5}), 0, false}, {"no such stop", 0, tour([]int{0, 9, 5}), 0, false},
		{"the clock too small", 0, tour(base), -1, false}, {"the clock too great", 0, tour(base), api.MaxTime + 1, false},
		{"idle", 0, tour([]int{0, 5}), 0, true}, {"idle, too late", 0, tour([]int{0, 5}), 1001, true}, {"idle, whatever the clock", 0, tour([]int{0, 5}), math.MinInt64, true},
		{"idle, whatever the clock", 0, tour([]int{0, 5}), math.MaxInt64, true}, {"idle, no such car", 2, tour([]int{0, 5}), 0, false}, {"idle, a car below 0", math.MinInt, tour([]int{0, 5}), 0, false},
		{"idle, but pinned", 0, tour([]int{0, 5}, 3), 3, true}, {"idle, but pinned, too late", 0, tour([]int{0, 5}, 3), 1001, false}, {"idle, pinned whole", 0, tour([]int{0, 5}, 3, 3), 1001, true},
		{"the depots the other way", 0, tour([]int{5, 0}), 0, false},
		{"a pin", 0, tour(base, 7), 7, true}, {"two pins", 0, tour(base, 7, 8), 9, true}, {"pins too near", 0, tour(base, 7, 7), 9, false},
		{"all pinned", 0, tour(base, 1, 2, 4, 7), 999, true}, {"all pinned, ahead of the windows", 0, tour(base, 2001, 2002, 2004, 2007), 0, true},
		{"one pin too many", 0, tour(base, 1, 2, 4, 7, 9), 0, false},
		{"a pin's time too small", 0, tour(base, -1), 0, false}, {"a pin's time too great", 0, tour(base, api.MaxTime+1), 0, false},
		{"a pin at the wrong place", 0, api.Tour{Seq: base, Pins: []api.Pin{{At: 1, Time: 9}}}, 0, false},
		{"pins in the wrong order", 0, api.Tour{Seq: base, Pins: []api.Pin{{At: 1, Time: 9}, {At: 0, Time: 7}}}, 0, false},
		{"a pin twice", 0, api.Tour{Seq: base, Pins: []api.Pin{{Time: 7}, {Time: 7}}}, 0, false},
		{"a pin below 0", 0, api.Tour{Seq: base, Pins: []api.Pin{{At: -1, Time: 7}}}, 0, false},
		{"a pin left out", 0, api.Tour{Seq: base, Pins: []api.Pin{{Time: 7}, {At: 2, Time: 10}}}, 0, false},
	} {
		if Right(x, c.car, c.t, c.clock) != c.want {
			t.Errorf("%s: not %v", c.what, c.want)
		}
	}
	for _, held := range []func(x *api.Instance){
		func(x *api.Instance) { x.Cars[0].Max = 7 }, func(x *api.Instance) { x.Rides[0] = 1 }, func(x *api.Instance) { x.Stops[5].Late = 7 }, func(x *api.Instance) { x.Stops[1].Early, x.Stops[2].Late = 10, 10 },
		func(x *api.Instance) { x.Stops[0].Load.Seats = 1 }, func(x *api.Instance) { x.Cars = nil }, func(x *api.Instance) { *x = api.Instance{} },
	} {
		x := two()
		held(&x)
		if Right(x, 0, tour(full), 0) {
			t.Errorf("%+v: right", x)
		}
	}
}

// P16.1: places and their costs, by hand, with one thing or another that holds them.
func TestPlacesByHand(t *testing.T) {
	every := []Spot{{1, 2, 6}, {1, 3, 4}, {1, 4, 4}, {2, 3, 2}, {2, 4, 2}, {3, 4, 4}}
	for _, c := range []struct {
		what string
		turn func(a *ask)
		want []Spot
	}{
		{"nothing", func(a *ask) {}, every},
		{"an idle tour", func(a *ask) { a.t = tour([]int{0, 5}) }, []Spot{{1, 2, 8}}},
		{"an idle tour, the last clock", func(a *ask) { a.t = tour([]int{0, 5}); a.clock = 992 }, []Spot{{1, 2, 8}}},
		{"an idle tour, too late", func(a *ask) { a.t = tour([]int{0, 5}); a.clock = 993 }, nil},
		{"an idle tour, far too late", func(a *ask) { a.t = tour([]int{0, 5}); a.clock = 1001 }, nil},
		{"an idle tour, no such clock", func(a *ask) { a.t = tour([]int{0, 5}); a.clock = -1 }, nil},
		{"an idle tour, no such clock", func(a *ask) { a.t = tour([]int{0, 5}); a.clock = math.MinInt64 }, nil},
		{"an idle tour, no such clock", func(a *ask) { a.t = tour([]int{0, 5}); a.clock = math.MaxInt64 }, nil},
		{"an idle tour that can't be driven", func(a *ask) { a.t = tour([]int{0, 5}); a.x.Stops[0].Early, a.x.Stops[5].Late = 10, 9 }, nil},
		{"an idle tour whose way alone is too long", func(a *ask) {
			a.t, a.x = tour([]int{0, 5}), with(a.x, 1)
			a.x.Matrix[0][5], a.x.Cars[0].Max = 9, 3
		}, []Spot{{1, 2, -6}}},
		{"a pinned one, too late but for the pins", func(a *ask) { a.t = tour([]int{0, 5}, 990); a.x.Stops[0].Late = 0 }, []Spot{{1, 2, 8}}},
		{"a pinned one, too late", func(a *ask) { a.t = tour([]int{0, 5}, 993) }, nil},
		{"one pin", func(a *ask) { a.t = tour(a.t.Seq, 0) }, every},
		{"two pins", func(a *ask) { a.t = tour(a.t.Seq, 0, 1) }, every[3:]},
		{"three pins", func(a *ask) { a.t = tour(a.t.Seq, 0, 1, 3) }, every[5:]},
		{"all pinned", func(a *ask) { a.t = tour(a.t.Seq, 0, 1, 3, 6) }, nil},
		{"the depots pinned", func(a *ask) { a.t = tour([]int{0, 5}, 0, 6) }, nil},
		{"one seat", func(a *ask) { a.x.Cars[0].Cap.Seats = 1 }, []Spot{every[0], every[5]}},
		{"no seat", func(a *ask) { a.t = tour([]int{0, 5}); a.x.Cars[0].Cap.Seats = 0 }, nil},
		{"a wheelchair", func(a *ask) { a.x.Stops[2].Load.Wheels, a.x.Stops[4].Load.Wheels = 1, -1 }, nil},
		{"a wheelchair's place for one of two", func(a *ask) {
			a.x.Cars[0].Cap.Wheels = 1
			for i := 1; i < 5; i++ {
				a.x.Stops[i].Load = api.Load{Wheels: 1 - (i-1)/2*2}
			}
		}, []Spot{every[0], every[5]}},
		{"nothing to be on board", func(a *ask) {
			a.x.Cars[0].Cap.Seats = 1
			a.x.Stops[2].Load, a.x.Stops[4].Load = api.Load{}, api.Load{}
		}, every},
		{"the day", func(a *ask) { a.x.Cars[0].Max = 9 }, every[3:5]},
		{"the day, by 1", func(a *ask) { a.x.Cars[0].Max = 7 }, nil},
		{"the end's window", func(a *ask) { a.x.Stops[5].Late = 10 }, every[1:]},
		{"the pickup's window", func(a *ask) { a.x.Stops[2].Late = 2 }, every[:5]},
		{"the drop's window", func(a *ask) { a.x.Stops[4].Late = 4 }, []Spot{every[0], every[3], every[4]}},
		{"their ride", func(a *ask) { a.x.Rides[1] = 2 }, []Spot{every[0], every[3], every[4], every[5]}},
		{"the other one's ride", func(a *ask) { a.x.Rides[0] = 2 }, []Spot{every[0], every[2], every[4], every[5]}},
		{"the other one's ride, who waits", func(a *ask) { a.x.Rides[0] = 2; a.x.Stops[2].Early = 10 }, []Spot{every[0], every[2], every[4], every[5]}},
		{"the other one's ride, who was picked up", func(a *ask) { a.t = tour(a.t.Seq, 0, 1); a.x.Rides[0] = 2; a.x.Stops[2].Early = 3 }, every[5:]},
		{"the clock", func(a *ask) { a.clock = 992 }, every[3:5]},
		{"who must wait for the drop", func(a *ask) { a.x.Stops[3].Early = 100; a.x.Rides[0] = 30; a.x.Stops[2].Late = 60 }, every[:3]},
		{"who must wait for the drop of another one", func(a *ask) {
			a.x = at(3, [2]float64{1, 4}, [2]float64{2, 4}, [2]float64{3, 5})
			a.t, a.request = tour([]int{0, 1, 3, 4, 6, 7}), 2
			a.x.Stops[6].Early = 100 // so 3 isn't picked up ahead of 95, so 1 not ahead of 76
			a.x.Rides = []int64{20, 1000, 5}
			a.x.Stops[2].Late = 76
		}, []Spot{{1, 2, 6}, {1, 3, 4}, {1, 4, 2}, {1, 5, 2}, {1, 6, 2}}},
		{"who is there", func(a *ask) { a.request = 1 }, nil},
		{"nobody", func(a *ask) { a.request = 0 }, nil}, {"nobody", func(a *ask) { a.request = 3 }, nil}, {"nobody", func(a *ask) { a.request = -1 }, nil}, {"nobody", func(a *ask) { a.request = math.MaxInt }, nil}, {"nobody", func(a *ask) { a.request = math.MinInt }, nil},
		{"no car", func(a *ask) { a.car = 1 }, nil}, {"no car", func(a *ask) { a.car = -1 }, nil},
		{"a clock that isn't", func(a *ask) { a.clock = -1 }, nil}, {"a clock that isn't", func(a *ask) { a.clock = api.MaxTime + 1 }, nil},
		{"no row", func(a *ask) { a.t.Seq = nil }, nil}, {"a row that isn't right", func(a *ask) { a.t.Seq = []int{0, 3, 1, 5} }, nil}, {"half a request", func(a *ask) { a.t.Seq = []int{0, 2, 5} }, nil},
		{"a pin too many", func(a *ask) { a.t.Pins = make([]api.Pin, 5) }, nil}, {"a pin out of order", func(a *ask) { a.t.Pins = []api.Pin{{At: 1, Time: 1}} }, nil},
		{"an instance that isn't right", func(a *ask) { a.x.Rides[1] = -1 }, nil}, {"nothing at all", func(a *ask) { *a = ask{} }, nil},
	} {
		a := ask{x: two(), t: tour([]int{0, 1, 3, 5}), request: 2}
		c.turn(&a)
		a.tell(t, c.what, c.want...)
		if all := a.wanted(); !slices.Equal(all, c.want) {
			t.Errorf("%s: by layer 12 it is %v, not %v", c.what, all, c.want)
		}
	}
}

// P16.1: with a Matrix a place may cost less than nothing; of as cheap ones the first is the best.
func TestBestOfCosts(t *testing.T) {
	x := with(two(), 10)
	x.Stops[1].Late, x.Stops[4].Service = 500, 20
	a := ask{x: x, t: tour([]int{0, 1, 3, 5}), request: 2}
	a.tell(t, "all alike", Spot{1, 2, 20}, Spot{1, 3, 20}, Spot{1, 4, 20}, Spot{2, 3, 20}, Spot{2, 4, 20}, Spot{3, 4, 20})
	x.Matrix[1][3] = 300
	a.tell(t, "a way round", Spot{1, 2, 20}, Spot{1, 3, -270}, Spot{1, 4, 20}, Spot{2, 3, -270}, Spot{2, 4, -270}, Spot{3, 4, 20})
	x.Matrix[0][2] = 9
	a.tell(t, "the first stop", Spot{1, 2, 19}, Spot{1, 3, -271}, Spot{1, 4, 19}, Spot{2, 3, -270}, Spot{2, 4, -270}, Spot{3, 4, 20})
	x.Matrix[4][5] = 7
	a.tell(t, "the last stop", Spot{1, 2, 19}, Spot{1, 3, -271}, Spot{1, 4, 16}, Spot{2, 3, -270}, Spot{2, 4, -273}, Spot{3, 4, 17})
	for i := range x.Matrix {
		x.Matrix[i] = slices.Repeat([]int64{api.MaxTime}, 6)
	}
	x.Cars[0].Max = api.MaxTime
	a.t = tour([]int{0, 5})
	a.tell(t, "too far")
	x.Matrix[0][2], x.Matrix[2][4], x.Matrix[4][5] = 0, 0, 0
	a.tell(t, "none but by them", Spot{1, 2, -api.MaxTime})
}

// drawn is an instance with a car, a tour of it that is right, and a request; if they are tight, they hold each other.
func drawn(draws *rand.Rand) ask {
	n := 1 + draws.IntN(6)
	x := api.Instance{Cars: make([]api.Car, 1+draws.IntN(2)), Stops: make([]api.Stop, 2*n+2)}
	car := draws.IntN(len(x.Cars))
	wide := 20 + draws.Int64N(120)
	x.Cars[car] = api.Car{Cap: api.Load{Seats: 1 + draws.IntN(4), Wheels: draws.IntN(3)}, Max: wide/2 + draws.Int64N(wide)}
	for range n {
		x.Rides = append(x.Rides, 2+draws.Int64N(wide/3))
	}
	for i := range x.Stops {
		s := &x.Stops[i]
		s.Spot = complex(float64(draws.IntN(8)), float64(draws.IntN(8)))
		s.Early = draws.Int64N(wide)
		s.Late = s.Early + draws.Int64N(wide)
		if draws.IntN(3) == 0 || i == 0 || i == 2*n+1 {
			s.Early, s.Late = 0, 3*wide
		}
		if i > 0 && i <= 2*n {
			s.Service = draws.Int64N(4)
		}
	}
	for i := range n {
		on, off := &x.Stops[1+i].Load, &x.Stops[1+n+i].Load
		*on = api.Load{Seats: draws.IntN(3), Wheels: draws.IntN(2)}
		*off = api.Load{Seats: -on.Seats, Wheels: -on.Wheels}
	}
	if draws.IntN(3) == 0 {
		x = with(x, 0)
		for _, times := range x.Matrix {
			for j := range times {
				times[j] = draws.Int64N(12) * draws.Int64N(2)
			}
		}
	}
	a := ask{x: x, car: car, clock: draws.Int64N(wide) * draws.Int64N(2)}
	a.t.Seq = seqn.Empty(x)
	order := draws.Perm(n)
	for _, i := range order[1:] {
		for range 12 {
			from := 1 + draws.IntN(len(a.t.Seq)-1)
			more := api.Tour{Seq: seqn.With(x, a.t.Seq, i+1, from, from+1+draws.IntN(len(a.t.Seq)-from))}
			if a.right(more) {
				a.t = more
				break
			}
		}
	}
	a.pin(draws)
	a.request = order[draws.IntN(n)*draws.IntN(2)] + 1
	return a
}

// pin gives the first stops of a tour pins, as they begin or a little later, and lets the clock go on.
func (a *ask) pin(draws *rand.Rand) {
	r, e := sched.Plan(a.x, a.car, a.t.Seq, a.clock, nil)
	if e != api.OK || draws.IntN(2) == 0 {
		return
	}
	pins := tour(a.t.Seq, r.Times[:draws.IntN(len(r.Times)+1)]...).Pins
	for i := range pins {
		pins[i].Time += draws.Int64N(3) * draws.Int64N(2)
	}
	pinned := ask{x: a.x, car: a.car, clock: a.clock + draws.Int64N(20)*draws.Int64N(2)}
	if t := (api.Tour{Seq: a.t.Seq, Pins: pins}); pinned.right(t) {
		a.t, a.clock = t, pinned.clock
	}
}

// held is a tour that is driven at drawn times, with waits; windows, rides, and the day, leave little but these.
func held(draws *rand.Rand) ask {
	n := 2 + draws.IntN(5)
	x := at(n, make([][2]float64, n)...)
	for i := range x.Stops {
		x.Stops[i].Spot = complex(float64(draws.IntN(4)), float64(draws.IntN(4)))
	}
	a := ask{x: x, request: 1 + draws.IntN(n)}
	a.t.Seq = seqn.Empty(x)
	for _, i := range draws.Perm(n) {
		from := 1 + draws.IntN(len(a.t.Seq)-1)
		if i+1 != a.request {
			a.t.Seq = seqn.With(x, a.t.Seq, i+1, from, from+1+draws.IntN(len(a.t.Seq)-from))
		}
	}
	spare := func() int64 { return draws.Int64N(8) + draws.Int64N(2)*draws.Int64N(2)*200 }
	times := make([]int64, len(x.Stops))
	clock := int64(20)
	for i, stop := range a.t.Seq {
		if i > 0 {
			clock += inst.Travel(x, a.t.Seq[i-1], stop) + draws.Int64N(2)*draws.Int64N(30)
		}
		times[stop] = clock
	}
	begin, end := 20+draws.Int64N(clock-19), 20+draws.Int64N(clock-19)
	times[a.request], times[n+a.request] = min(begin, end), max(begin, end)
	for i, time := range times {
		x.Stops[i].Early, x.Stops[i].Late = max(time-spare(), 0), time+spare()
	}
	for i := range n {
		x.Rides[i] = times[1+n+i] - times[1+i] + spare()
	}
	x.Cars[0].Max = clock - times[0] + spare()
	for i := range draws.IntN(len(a.t.Seq)+1) * draws.IntN(2) {
		a.t.Pins = append(a.t.Pins, api.Pin{At: i, Time: times[a.t.Seq[i]]})
	}
	return a
}

// P16.1, P16.2: the places of drawn tours are those, of all there are, at which layer 12 has times.
func TestPlacesOfDrawnTours(t *testing.T) {
	draws := rand.New(rand.NewPCG(1, 2))
	pairs, told, pinned, odd := 0, 0, 0, 0
	for i := range 36000 {
		a := drawn(draws)
		if i%2 == 1 {
			a = held(draws)
		}
		want := a.wanted()
		if got := a.all(); !slices.Equal(got, want) {
			t.Fatalf("%+v: %v, not %v", a, got, want)
		}
		best, found := cheapest(want)
		if s, ok := Best(a.x, a.car, a.t, a.clock, a.request); s != best || ok != found {
			t.Fatalf("%+v: %v, %v, not %v", a, s, ok, best)
		}
		if !Right(a.x, a.car, a.t, a.clock) {
			odd++
		}
		pairs += len(a.t.Seq) * (len(a.t.Seq) - 1) / 2
		told += len(want)
		if len(a.t.Pins) > 0 {
			pinned += len(want)
		}
		for _, s := range want {
			a.putAndTake(t, s)
		}
	}
	if told < 20000 || pairs-told < 200000 || pinned < 3000 || odd > 0 {
		t.Errorf("hardly asked: of %d pairs %d are places, %d behind pins; %d tours aren't right", pairs, told, pinned, odd)
	}
}

// putAndTake asks what is put, what it costs, and what is taken then.
func (a ask) putAndTake(t *testing.T, s Spot) {
	t.Helper()
	more := Put(a.x, a.t, a.request, s)
	if !a.right(more) || more.Seq[s.A] != a.request || more.Seq[s.B] != len(a.x.Rides)+a.request || !slices.Equal(more.Pins, a.t.Pins) {
		t.Fatalf("%+v, %v: %v", a, s, more)
	}
	if Cost(a.x, more)-Cost(a.x, a.t) != s.Cost {
		t.Fatalf("%+v, %v: it costs %d more", a, s, Cost(a.x, more)-Cost(a.x, a.t))
	}
	if less, ok := Take(a.x, more, a.request); !ok || !same(less, a.t) {
		t.Fatalf("%+v, %v: %v is taken", a, s, less)
	}
}

// P16.2: all tours of three requests, each with each time of some windows, so that each stop alone may hold.
func TestPlacesOfSmallWindows(t *testing.T) {
	x := at(3, [2]float64{1, 3}, [2]float64{2, 4}, [2]float64{3, 1})
	x.Rides = []int64{6, 5, 9}
	x.Cars[0].Max = 16
	for _, seq := range [][]int{{0, 7}, {0, 1, 4, 7}, {0, 1, 2, 4, 5, 7}, {0, 2, 1, 4, 5, 7}, {0, 1, 4, 2, 5, 7}} {
		for stop := range x.Stops {
			for early := int64(0); early < 18; early += 3 {
				for late := early; late < 22; late += 4 {
					y := x
					y.Stops = slices.Clone(x.Stops)
					y.Stops[stop].Early, y.Stops[stop].Late = early, late
					a := ask{x: y, t: tour(seq), request: 3, clock: early % 2}
					if got, want := a.all(), a.wanted(); !slices.Equal(got, want) {
						t.Fatalf("%v, stop %d from %d to %d: %v, not %v", seq, stop, early, late, got, want)
					}
				}
			}
		}
	}
}

// P16.1: the longest row, where each pair is a place, and where few are; layer 12 has the last word on the best.
func TestPlacesOfTheLongestRow(t *testing.T) {
	n := api.MaxStops/2 - 1
	x := api.Instance{Cars: []api.Car{{Cap: api.Load{Seats: 2}, Max: api.MaxTime}}, Stops: make([]api.Stop, 2*n+2), Rides: slices.Repeat([]int64{api.MaxTime}, n)}
	seq := []int{0}
	for i := range x.Stops {
		x.Stops[i].Late = api.MaxTime
	}
	for i := 1; i <= n; i++ {
		x.Stops[i].Load.Seats, x.Stops[n+i].Load.Seats = 1, -1
		x.Stops[i].Spot, x.Stops[n+i].Spot = complex(float64(i), 0), complex(float64(i), 1)
		if i < n {
			seq = append(seq, i, n+i)
		}
	}
	seq = append(seq, 2*n+1)
	x.Stops[n].Spot, x.Stops[2*n].Spot = 700+1i, 1400
	a := ask{x: x, t: tour(seq), request: n}
	k := len(seq)
	if got := a.all(); len(got) != k*(k-1)/2 || got[0] != (Spot{1, 2, inst.Path(x, []int{0, n, 2 * n, 1}) - inst.Path(x, []int{0, 1})}) || got[len(got)-1].A != k-1 {
		t.Errorf("%d places, from %v", len(got), got[:min(len(got), 1)])
	}
	a.x.Cars[0].Max = inst.Path(x, seq) + 4
	a.x.Rides[n-1] = 2*700 + 699 - 1 // from where it lies to where it lies it would take one more
	s, ok := Best(a.x, 0, a.t, 0, n)
	if !ok || !a.right(Put(a.x, a.t, n, s)) || s.Cost < 1 || s.Cost > 4 {
		t.Errorf("%v, %v", s, ok)
	}
	a.x.Cars[0].Max = inst.Path(x, seq) + s.Cost - 1
	if s, ok := Best(a.x, 0, a.t, 0, n); ok {
		t.Errorf("%v", s)
	}
}

// Times at the bounds, in a row of any length, are beyond none.
func TestPlacesAtTheBounds(t *testing.T) {
	x := with(at(3, [2]float64{}, [2]float64{}, [2]float64{}), api.MaxTime)
	x.Cars[0].Max = api.MaxTime
	for i := range x.Stops {
		x.Stops[i].Late = api.MaxTime
	}
	for i := 1; i < 7; i++ {
		x.Stops[i].Service = api.MaxTime
	}
	x.Rides = slices.Repeat([]int64{api.MaxTime}, 3)
	seqs := [][]int{{0, 7}, {0, 1, 4, 7}, {0, 1, 2, 4, 5, 7}}
	for _, clock := range []int64{0, 1, api.MaxTime} {
		for _, seq := range seqs {
			for pins := range len(seq) + 1 {
				a := ask{x: x, t: tour(seq, slices.Repeat([]int64{api.MaxTime}, pins)...), clock: clock, request: 3}
				a.tell(t, "far", a.wanted()...)
				a.x = with(x, 0)
				a.tell(t, "near", a.wanted()...)
				a.x.Stops = slices.Clone(x.Stops)
				for i := range a.x.Stops {
					a.x.Stops[i].Service = 0
				}
				a.tell(t, "at once", a.wanted()...)
				if want := len(seq) * (len(seq) - 1) / 2; pins == 0 && len(a.all()) != want {
					t.Errorf("%v: %d places, not %d", seq, len(a.all()), want)
				}
			}
		}
	}
}

// P16.1: as long as more is asked for, and as often as it is gone over, one in another too.
func TestPlacesGoOn(t *testing.T) {
	a := ask{x: at(4, [2]float64{1, 3}, [2]float64{2, 4}, [2]float64{3, 5}), t: tour([]int{0, 1, 2, 4, 5, 7}), request: 3}
	places, want := All(a.x, 0, a.t, 0, 3), a.wanted()
	for most := range len(want) + 1 {
		var got []Spot
		for s := range places {
			for other := range places {
				if other != want[0] {
					t.Errorf("within, %v is first", other)
				}
				break
			}
			if got = append(got, s); len(got) >= most {
				break
			}
		}
		if most = max(most, 1); !slices.Equal(got, want[:most]) {
			t.Errorf("%d: %v", most, got)
		}
	}
	if got := slices.Collect(places); len(got) != 15 || !slices.Equal(got, want) {
		t.Errorf("%v", got)
	}
	for range All(a.x, 0, a.t, 0, 1) {
		t.Error("a place for who is there")
	}
}

// What is handed in stays as it is, and may be written over behind the call.
func TestPlacesKeepNothing(t *testing.T) {
	draws := rand.New(rand.NewPCG(3, 4))
	for range 2000 {
		a := drawn(draws)
		x, pins, seq := copied(a.x), slices.Clone(a.t.Pins), slices.Clone(a.t.Seq)
		want := a.all()
		places := All(a.x, a.car, a.t, a.clock, a.request)
		Best(a.x, a.car, a.t, a.clock, a.request)
		if !inst.Same(x, a.x) || !slices.Equal(pins, a.t.Pins) || !slices.Equal(seq, a.t.Seq) {
			t.Fatalf("%+v: it is changed", a)
		}
		clear(a.x.Cars)
		clear(a.x.Stops)
		clear(a.x.Rides)
		for _, times := range a.x.Matrix {
			clear(times)
		}
		clear(a.t.Seq)
		clear(a.t.Pins)
		if got := slices.Collect(places); !slices.Equal(got, want) {
			t.Fatalf("%+v: %v, not %v", x, got, want)
		}
	}
}

// copied is an instance in memory of its own.
func copied(x api.Instance) api.Instance {
	x.Cars, x.Stops, x.Rides, x.Matrix = slices.Clone(x.Cars), slices.Clone(x.Stops), slices.Clone(x.Rides), slices.Clone(x.Matrix)
	for i := range x.Matrix {
		x.Matrix[i] = slices.Clone(x.Matrix[i])
	}
	return x
}

// P16.1: what is put where, and the row as it is, where that is no place of layer 9's.
func TestPut(t *testing.T) {
	x := two()
	base := tour([]int{0, 1, 3, 5}, 0, 1)
	for _, c := range []struct {
		request, a, b int
		want          []int
	}{
		{2, 2, 3, []int{0, 1, 2, 4, 3, 5}}, {2, 3, 4, []int{0, 1, 3, 2, 4, 5}}, {2, 2, 4, []int{0, 1, 2, 3, 4, 5}},
		{2, 1, 4, []int{0, 2, 1, 3, 4, 5}}, {2, 0, 1, base.Seq}, {2, 2, 2, base.Seq}, {2, 3, 2, base.Seq}, {2, 2, 5, base.Seq},
		{2, math.MinInt, math.MaxInt, base.Seq}, {2, math.MaxInt, math.MinInt, base.Seq}, {0, 1, 2, base.Seq}, {3, 1, 2, base.Seq}, {-1, 1, 2, base.Seq},
	} {
		got := Put(x, base, c.request, Spot{A: c.a, B: c.b, Cost: -7})
		if !slices.Equal(got.Seq, c.want) || !slices.Equal(got.Pins, base.Pins) {
			t.Errorf("%v: %v", c, got)
		}
	}
	if got := Put(x, api.Tour{}, 1, Spot{A: 1, B: 2}); len(got.Seq) != 0 || len(got.Pins) != 0 {
		t.Errorf("into nothing: %v", got)
	}
	if got := Put(api.Instance{}, base, 1, Spot{A: 1, B: 2}); !same(got, base) {
		t.Errorf("of nothing: %v", got)
	}
}

// P16.1: what is taken, and what isn't.
func TestTake(t *testing.T) {
	x := two()
	full := []int{0, 1, 2, 3, 4, 5}
	for _, c := range []struct {
		what    string
		t       api.Tour
		request int
		want    []int // nil: it isn't taken
	}{
		{"the first one", tour(full), 1, []int{0, 2, 4, 5}}, {"the second one", tour(full), 2, []int{0, 1, 3, 5}},
		{"the last one", tour([]int{0, 2, 4, 5}), 2, []int{0, 5}},
		{"behind the depot's pin", tour(full, 0), 1, []int{0, 2, 4, 5}}, {"a frozen one", tour(full, 0, 1), 1, nil}, {"behind a frozen one", tour(full, 0, 1), 2, []int{0, 1, 3, 5}},
		{"both frozen", tour(full, 0, 1, 2), 2, nil}, {"all frozen", tour(full, 0, 1, 2, 3, 4, 8), 1, nil}, {"pins for more", tour(full, 0, 1, 2, 3, 4, 8, 9, 9), 1, nil},
		{"pins at other places", api.Tour{Seq: full, Pins: []api.Pin{{At: 4}, {At: 1}}}, 2, []int{0, 1, 3, 5}}, {"pins at other places", api.Tour{Seq: full, Pins: []api.Pin{{At: 4}, {At: 4}}}, 1, nil},
		{"who isn't there", tour([]int{0, 1, 3, 5}), 2, nil}, {"no drop", tour([]int{0, 1, 5}), 1, nil}, {"no pickup", tour([]int{0, 3, 5}), 1, nil},
		{"the drop ahead", tour([]int{0, 3, 1, 5}), 1, []int{0, 5}}, {"the drop ahead, frozen", tour([]int{0, 3, 1, 5}, 0, 1), 1, []int{0, 5}}, {"no depots", tour([]int{1, 3}), 1, []int{}}, {"a pickup twice", tour([]int{0, 1, 2, 1, 3, 5}, 0, 1), 1, nil},
		{"nobody", tour(full), 0, nil}, {"nobody", tour(full), 3, nil}, {"nobody", tour(full), -1, nil}, {"nobody", tour(full), math.MinInt, nil}, {"no row", api.Tour{}, 1, nil}, {"no row but pins", tour(nil, 1, 2), 1, nil},
	} {
		want := api.Tour{Seq: c.want, Pins: c.t.Pins}
		if c.want == nil {
			want = c.t
		}
		if got, ok := Take(x, c.t, c.request); ok != (c.want != nil) || !same(got, want) {
			t.Errorf("%s: %v, %v", c.what, got, ok)
		}
	}
	if got, ok := Take(api.Instance{}, tour(full), 1); ok || !slices.Equal(got.Seq, full) {
		t.Errorf("of nothing: %v", got)
	}
}

// What is put and taken is new memory, spare room too.
func TestToursShareNothing(t *testing.T) {
	x := two()
	seq, pins := []int{0, 1, 3, 5, 9, 9, 9}, []api.Pin{{}, {At: 1, Time: 1}, {At: 9}}
	base := api.Tour{Seq: seq[:4], Pins: pins[:1]}
	for _, call := range []func() api.Tour{
		func() api.Tour { return Put(x, base, 2, Spot{A: 2, B: 3}) },
		func() api.Tour { return Put(x, base, 2, Spot{}) },
		func() api.Tour { taken, _ := Take(x, base, 1); return taken },
		func() api.Tour { taken, _ := Take(x, base, 2); return taken },
		func() api.Tour { taken, _ := Take(x, api.Tour{Seq: seq[:4], Pins: pins[:2]}, 1); return taken },
	} {
		got := call()
		got.Seq, got.Pins = got.Seq[:cap(got.Seq)], got.Pins[:cap(got.Pins)]
		for i := range got.Seq {
			got.Seq[i] = 77
		}
		for i := range got.Pins {
			got.Pins[i].Time = 77
		}
		if !slices.Equal(seq, []int{0, 1, 3, 5, 9, 9, 9}) || !slices.Equal(pins, []api.Pin{{}, {At: 1, Time: 1}, {At: 9}}) {
			t.Fatalf("%v, %v", seq, pins)
		}
	}
}

// P16.1: a tour costs what its row does, whatever that is.
func TestCost(t *testing.T) {
	x := two()
	for _, c := range []struct {
		seq  []int
		want int64
	}{{nil, 0}, {[]int{0}, 0}, {[]int{0, 5}, 0}, {[]int{0, 1, 3, 5}, 6}, {[]int{0, 1, 2, 3, 4, 5}, 8}, {[]int{4, 1}, 3}, {[]int{0, 9, 4}, 0}} {
		if got := Cost(x, tour(c.seq, 5)); got != c.want {
			t.Errorf("%v: %d", c.seq, got)
		}
	}
	x = with(x, 7)
	x.Matrix[0][5], x.Matrix[5][0] = math.MaxInt64, math.MinInt64
	if a, b := Cost(x, tour([]int{0, 5, 1})), Cost(x, tour([]int{5, 0, 1})); a != api.MaxTime+7 || b != 7-api.MaxTime {
		t.Errorf("%d, %d", a, b)
	}
}

// P16.2: of a tour into which all were put at their best places, times are told, and hold.
func TestToursThatAreFilled(t *testing.T) {
	draws := rand.New(rand.NewPCG(5, 6))
	most := 0
	for range 300 {
		a := drawn(draws)
		for request := range len(a.x.Rides) {
			if s, ok := Best(a.x, a.car, a.t, a.clock, request+1); ok {
				a.t = Put(a.x, a.t, request+1, s)
			}
		}
		if r, e := sched.Plan(a.x, a.car, a.t.Seq, a.clock, a.t.Pins); e != api.OK && !idle(a.x, a.t) || e == api.OK && !rule.Hold(a.x, a.car, a.t.Seq, a.clock, a.t.Pins, r.Times) {
			t.Fatalf("%+v: %d", a, e)
		}
		most = max(most, len(a.t.Seq))
	}
	if most < 10 {
		t.Errorf("at most %d stops", most)
	}
}
