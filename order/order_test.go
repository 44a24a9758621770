package order

import (
	"math"
	"math/rand/v2"
	"slices"
	"testing"

	"jitney/api"
	"jitney/bound"
	"jitney/inst"
	"jitney/rule"
	"jitney/sched"
	"jitney/seqn"
	"jitney/todo"
)

// ask is what Best is asked, answer what it tells.
type ask struct {
	x               api.Instance
	car             int
	pins            []api.Pin
	prefix, waiting []int
	clock           int64
}

type answer struct {
	row   []int
	cost  int64
	times []int64
	e     api.Errno
}

func (a ask) best() answer {
	row, cost, times, e := Best(a.x, a.car, a.pins, a.prefix, a.waiting, a.clock)
	return answer{row, cost, times, e}
}

func (a answer) same(b answer) bool {
	return slices.Equal(a.row, b.row) && a.cost == b.cost && slices.Equal(a.times, b.times) && a.e == b.e
}

// tell asks Best, and fails if it answers another thing.
func (a ask) tell(t *testing.T, what string, want answer) {
	t.Helper()
	got := a.best()
	if !got.same(want) {
		t.Errorf("%s: %v, not %v", what, got, want)
	}
	if got.e != api.OK && (got.row != nil || got.cost != 0 || got.times != nil) {
		t.Errorf("%s: %v beside an error", what, got)
	}
}

// tellRow is tell, of a row and its cost alone; the times must be layer 12's.
func (a ask) tellRow(t *testing.T, what string, cost int64, row ...int) {
	t.Helper()
	r, _ := sched.Plan(a.x, a.car, row, a.clock, a.pins)
	a.tell(t, what, answer{row, cost, r.Times, api.OK})
}

// tellNone is tell, of what there is none of.
func (a ask) tellNone(t *testing.T, what string) {
	t.Helper()
	a.tell(t, what, answer{e: api.ErrTime})
}

// wanted is what Best must tell of what has no other error, by all orders that there are, and how many of them can be, and cost that.
func (a ask) wanted(t *testing.T) (answer, int) {
	t.Helper()
	d, e := todo.New(a.x, a.prefix, a.waiting)
	if e != api.OK {
		t.Fatalf("%+v: %d", a, e)
	}
	best, as := answer{e: api.ErrTime}, 0
	for order := range d.Orders() {
		row := d.Row(order)
		cost := inst.Path(a.x, row)
		if best.e == api.OK && cost > best.cost || seqn.Check(a.x, a.car, row) != api.OK {
			continue
		}
		r, e := sched.Plan(a.x, a.car, row, a.clock, a.pins)
		switch {
		case e != api.OK:
		case best.e == api.OK && cost == best.cost:
			as++
			if slices.Compare(row, best.row) < 0 {
				best = answer{row, cost, r.Times, api.OK}
			}
		default:
			best, as = answer{row, cost, r.Times, api.OK}, 1
		}
	}
	return best, as
}

// at is an instance of requests from place to place on a line, one seat each, with a car of so many seats; nothing else holds anybody.
func at(seats int, places ...[2]float64) api.Instance {
	n := len(places)
	x := api.Instance{Cars: []api.Car{{Cap: api.Load{Seats: seats}, Max: 1000}}, Rides: slices.Repeat([]int64{1000}, n), Stops: make([]api.Stop, 2*n+2)}
	for i := range x.Stops {
		x.Stops[i].Late = 1000
	}
	for i, p := range places {
		x.Stops[1+i].Spot, x.Stops[1+n+i].Spot = complex(p[0], 0), complex(p[1], 0)
		x.Stops[1+i].Load.Seats, x.Stops[1+n+i].Load.Seats = 1, -1
	}
	return x
}

// two is the example's instance.
func two() api.Instance {
	return at(2, [2]float64{1, 3}, [2]float64{2, 4})
}

// P15.1: two on a line, with one thing or another that holds them.
func TestBestByHand(t *testing.T) {
	for _, c := range []struct {
		what            string
		turn            func(a *ask)
		prefix, waiting []int
		cost            int64 // -1: there is none
		row             []int
	}{
		{"the example", func(a *ask) {}, []int{0}, []int{1, 2}, 8, []int{0, 1, 2, 3, 4, 5}},
		{"the other way round", func(a *ask) {}, []int{0}, []int{2, 1}, 8, []int{0, 1, 2, 3, 4, 5}},
		{"nobody", func(a *ask) {}, []int{0}, nil, 0, []int{0, 5}},
		{"one", func(a *ask) {}, []int{0}, []int{2}, 8, []int{0, 2, 4, 5}},
		{"one on board", func(a *ask) {}, []int{0, 1}, nil, 6, []int{0, 1, 3, 5}},
		{"one on board, one waits", func(a *ask) {}, []int{0, 2}, []int{1}, 10, []int{0, 2, 1, 3, 4, 5}},
		{"both on board", func(a *ask) {}, []int{0, 2, 1}, nil, 10, []int{0, 2, 1, 3, 4, 5}},
		{"one was driven", func(a *ask) {}, []int{0, 2, 4}, []int{1}, 12, []int{0, 2, 4, 1, 3, 5}},
		{"both were driven", func(a *ask) {}, []int{0, 2, 4, 1, 3}, nil, 12, []int{0, 2, 4, 1, 3, 5}},
		{"a seat", func(a *ask) { a.x.Cars[0].Cap.Seats = 1 }, []int{0}, []int{1, 2}, 10, []int{0, 1, 3, 2, 4, 5}},
		{"a wheelchair", func(a *ask) { a.x.Stops[2].Load.Wheels, a.x.Stops[4].Load.Wheels = 1, -1 }, []int{0}, []int{1, 2}, -1, nil},
		{"no seat", func(a *ask) { a.x.Cars[0].Cap.Seats = 0 }, []int{0}, []int{1}, -1, nil},
		{"no seat, and nobody", func(a *ask) { a.x.Cars[0].Cap.Seats = 0 }, []int{0}, nil, 0, []int{0, 5}},
		{"too many were on board", func(a *ask) { a.x.Cars[0].Cap.Seats = 1 }, []int{0, 1, 2, 3, 4}, nil, -1, nil},
		{"a full car", func(a *ask) { a.x.Cars[0].Cap.Seats = 1 }, []int{0, 2}, []int{1}, 12, []int{0, 2, 4, 1, 3, 5}},
		{"a short ride", func(a *ask) { a.x.Rides[1] = 2 }, []int{0}, []int{1, 2}, 8, []int{0, 1, 2, 3, 4, 5}},
		{"a ride with a stop on it", func(a *ask) { a.x.Rides[1] = 2; a.x.Stops[3].Service = 1 }, []int{0}, []int{1, 2}, 8, []int{0, 1, 2, 4, 3, 5}},
		{"too short a ride", func(a *ask) { a.x.Rides[0] = 1 }, []int{0}, []int{1, 2}, -1, nil},
		{"a service isn't ridden", func(a *ask) { a.x.Rides[0] = 2; a.x.Stops[1].Service = 9 }, []int{0}, []int{1, 2}, 8, []int{0, 1, 2, 3, 4, 5}},
		{"one is late", func(a *ask) { a.x.Stops[2].Late, a.x.Stops[1].Early = 2, 3 }, []int{0}, []int{1, 2}, 10, []int{0, 2, 1, 3, 4, 5}},
		{"one is too late", func(a *ask) { a.x.Stops[2].Late = 1 }, []int{0}, []int{1, 2}, -1, nil},
		{"just home", func(a *ask) { a.x.Stops[5].Late = 8 }, []int{0}, []int{1, 2}, 8, []int{0, 1, 2, 3, 4, 5}},
		{"not home", func(a *ask) { a.x.Stops[5].Late = 7 }, []int{0}, []int{1, 2}, -1, nil},
		{"just out", func(a *ask) { a.x.Cars[0].Max = 8 }, []int{0}, []int{1, 2}, 8, []int{0, 1, 2, 3, 4, 5}},
		{"out too long", func(a *ask) { a.x.Cars[0].Max = 7 }, []int{0}, []int{1, 2}, -1, nil},
		{"just by the clock", func(a *ask) { a.clock, a.x.Stops[5].Late = 500, 508 }, []int{0}, []int{1, 2}, 8, []int{0, 1, 2, 3, 4, 5}},
		{"the clock is late", func(a *ask) { a.clock, a.x.Stops[5].Late = 500, 507 }, []int{0}, []int{1, 2}, -1, nil},
		{"the clock is too late for what isn't frozen", func(a *ask) { a.clock, a.x.Stops[1].Late = 500, 100 }, []int{0, 1}, []int{2}, -1, nil},
		{"the clock isn't for what is frozen", func(a *ask) {
			a.clock, a.x.Stops[1].Late = 500, 100
			a.pins = []api.Pin{{At: 1, Time: 90}, {At: 0, Time: 0}}
		}, []int{0, 1}, []int{2}, 8, []int{0, 1, 2, 3, 4, 5}},
		{"frozen beyond its window", func(a *ask) {
			a.x.Stops[0].Late, a.x.Stops[1].Late = 5, 5
			a.pins = []api.Pin{{At: 0, Time: 6}, {At: 1, Time: 7}}
		}, []int{0, 1}, []int{2}, 8, []int{0, 1, 2, 3, 4, 5}},
		{"frozen ahead of the way", func(a *ask) { a.pins = []api.Pin{{At: 0, Time: 6}, {At: 1, Time: 6}} }, []int{0, 1}, []int{2}, -1, nil},
		{"frozen too late for the end", func(a *ask) { a.pins = []api.Pin{{At: 1, Time: 994}} }, []int{0, 1}, []int{2}, -1, nil},
		{"frozen for a ride that is just long enough", func(a *ask) {
			a.x.Rides[0], a.x.Stops[2].Early = 12, 12
			a.pins = []api.Pin{{At: 1, Time: 1}}
		}, []int{0, 1}, []int{2}, 8, []int{0, 1, 2, 3, 4, 5}},
		{"frozen for a ride that is too long with another", func(a *ask) {
			a.x.Rides[0], a.x.Stops[2].Early = 11, 12
			a.pins = []api.Pin{{At: 1, Time: 1}}
		}, []int{0, 1}, []int{2}, 10, []int{0, 1, 3, 2, 4, 5}},
		{"a ride was too long", func(a *ask) { a.pins = []api.Pin{{At: 1, Time: 1}, {At: 2, Time: 1002}} }, []int{0, 1, 3}, nil, -1, nil},
	} {
		a := ask{x: two(), prefix: c.prefix, waiting: c.waiting}
		c.turn(&a)
		if c.cost < 0 {
			a.tellNone(t, c.what)
		} else {
			a.tellRow(t, c.what, c.cost, c.row...)
		}
	}
}

// P15.1: times are those of layer 12, whichever these are.
func TestTimes(t *testing.T) {
	a := ask{x: two(), prefix: []int{0}, waiting: []int{1, 2}}
	a.tell(t, "the example", answer{[]int{0, 1, 2, 3, 4, 5}, 8, []int64{0, 1, 2, 3, 4, 8}, api.OK})
	a.x.Stops[1].Early = 20
	a.tell(t, "later", answer{[]int{0, 1, 2, 3, 4, 5}, 8, []int64{19, 20, 21, 22, 23, 27}, api.OK})
	a.prefix, a.waiting, a.pins = []int{0, 1}, []int{2}, []api.Pin{{At: 1, Time: 30}, {At: 0, Time: 7}}
	a.tell(t, "frozen", answer{[]int{0, 1, 2, 3, 4, 5}, 8, []int64{7, 30, 31, 32, 33, 37}, api.OK})
}

// P15.1: of as cheap ones the row that comes first, and of these that can be.
func TestAsCheapOnes(t *testing.T) {
	three := at(3, [2]float64{}, [2]float64{}, [2]float64{})
	a := ask{x: three, prefix: []int{0}, waiting: []int{3, 1, 2}}
	a.tellRow(t, "at one place", 0, 0, 1, 2, 3, 4, 5, 6, 7)
	a.x.Cars[0].Cap.Seats = 2
	a.tellRow(t, "at one place, with two seats", 0, 0, 1, 2, 4, 3, 5, 6, 7)
	a.x.Stops[6].Late, a.x.Stops[1].Early = 5, 6
	a.tellRow(t, "at one place, the third one ahead", 0, 0, 2, 3, 5, 6, 1, 4, 7)
	a.x.Stops[2].Early = 6
	a.tellRow(t, "at one place, the third one alone ahead", 0, 0, 3, 6, 1, 2, 4, 5, 7)
	a.prefix, a.waiting = []int{0, 2}, []int{1}
	a.tellRow(t, "at one place, with one on board", 0, 0, 2, 1, 4, 5, 7)
	b := ask{x: at(2, [2]float64{1, -1}, [2]float64{-1, 1}), prefix: []int{0}, waiting: []int{1, 2}}
	b.tellRow(t, "there and back", 6, 0, 1, 2, 3, 4, 5)
	b.x.Stops[2].Early, b.x.Stops[2].Late = 1, 2
	b.tellRow(t, "back and there", 6, 0, 2, 1, 4, 3, 5)
}

// fault is a thing that is wrong, and its error.
type fault struct {
	what string
	turn func(a *ask)
	e    api.Errno
}

// faults is what may be wrong, in the order in which it is looked for. Each can be so beside all others.
var faults = []fault{
	{"the instance", func(a *ask) { a.x.Rides[11] = -1 }, api.ErrArg},
	{"no depot", func(a *ask) { a.prefix[0] = 25 }, api.ErrDepot},
	{"no stop", func(a *ask) { a.prefix = append(a.prefix, 26) }, api.ErrNode},
	{"a stop twice", func(a *ask) { a.prefix = append(a.prefix, 1) }, api.ErrNode},
	{"a drop alone", func(a *ask) { a.prefix = append(a.prefix, 24) }, api.ErrPair},
	{"no request", func(a *ask) { a.waiting = append(a.waiting, 13) }, api.ErrNone},
	{"a request twice", func(a *ask) { a.waiting = append(a.waiting, 2) }, api.ErrTwice},
	{"one who is on board", func(a *ask) { a.waiting = append(a.waiting, 1) }, api.ErrTwice},
	{"too many", func(a *ask) { a.waiting = append(a.waiting, 4, 5, 6, 7, 8, 9) }, api.ErrMany},
	{"no car", func(a *ask) { a.car = 1 }, api.ErrArg},
	{"a car below 0", func(a *ask) { a.car = -1 }, api.ErrArg},
	{"the clock", func(a *ask) { a.clock = -1 }, api.ErrRange},
	{"the clock's bound", func(a *ask) { a.clock = api.MaxTime + 1 }, api.ErrRange},
	{"a pin's time", func(a *ask) { a.pins = append(a.pins, api.Pin{At: 0, Time: -1}) }, api.ErrRange},
	{"a pin's time's bound", func(a *ask) { a.pins = append(a.pins, api.Pin{At: 0, Time: api.MaxTime + 1}) }, api.ErrRange},
	{"a pin below all", func(a *ask) { a.pins = append(a.pins, api.Pin{At: -1}) }, api.ErrNone},
	{"a pin beyond all", func(a *ask) { a.pins = append(a.pins, api.Pin{At: len(a.prefix)}) }, api.ErrNone},
	{"two pins", func(a *ask) { a.pins = append(a.pins, api.Pin{At: 1, Time: 5}, api.Pin{At: 1, Time: 5}) }, api.ErrTwice},
	{"no times", func(a *ask) { a.x.Rides[0] = 0 }, api.ErrTime},
	{"no room", func(a *ask) { a.x.Cars[0].Cap.Seats = 0 }, api.ErrTime},
}

// sound is what nothing is wrong of.
func sound() ask {
	places := make([][2]float64, 12)
	for i := range places {
		places[i] = [2]float64{1, 2}
	}
	return ask{x: at(9, places...), prefix: []int{0, 1}, waiting: []int{2, 3}}
}

// P15.1: each error alone, and ahead of each other one that is looked for later.
func TestErrors(t *testing.T) {
	sound().tellRow(t, "nothing", 4, 0, 1, 2, 3, 13, 14, 15, 25)
	for i, first := range faults {
		a := sound()
		first.turn(&a)
		a.tell(t, first.what, answer{e: first.e})
		for _, second := range faults[i+1:] {
			a := sound()
			first.turn(&a)
			second.turn(&a)
			a.tell(t, first.what+", "+second.what, answer{e: first.e})
		}
	}
	for _, prefix := range [][]int{nil, {}, {1}, {-1}, {math.MaxInt}, {math.MinInt}} {
		a := sound()
		a.prefix = prefix
		a.tell(t, "no row", answer{e: api.ErrDepot})
	}
	ask{}.tell(t, "nothing at all", answer{e: api.ErrArg})
}

// P1, P15.1: the greatest and the least of all numbers.
func TestFarNumbers(t *testing.T) {
	for _, number := range []int{math.MinInt, -1, math.MaxInt} {
		for _, c := range []struct {
			turn func(a *ask)
			e    api.Errno
		}{
			{func(a *ask) { a.car = number }, api.ErrArg},
			{func(a *ask) { a.clock = int64(number) }, api.ErrRange},
			{func(a *ask) { a.prefix = append(a.prefix, number) }, api.ErrNode},
			{func(a *ask) { a.waiting = append(a.waiting, number) }, api.ErrNone},
			{func(a *ask) { a.pins = []api.Pin{{At: number}} }, api.ErrNone},
			{func(a *ask) { a.pins = []api.Pin{{Time: int64(number)}} }, api.ErrRange},
		} {
			a := sound()
			c.turn(&a)
			a.tell(t, "far", answer{e: c.e})
		}
	}
	a := sound()
	a.pins = slices.Repeat([]api.Pin{{At: 0, Time: 3}}, 100000)
	a.tell(t, "many pins", answer{e: api.ErrTwice})
	a = sound()
	a.clock = api.MaxTime
	a.tellNone(t, "the last clock")
}

// drawn is an instance of so many requests, of which some wait, some are on board, some were driven, and some have no part in it.
func drawn(r *rand.Rand, n int) ask {
	a := ask{car: r.IntN(2), prefix: []int{0}, clock: r.Int64N(2) * r.Int64N(12)}
	day, side := 20+r.Int64N(80), 1+r.IntN(9)
	a.x = api.Instance{Stops: make([]api.Stop, 2*n+2)}
	for range 2 {
		a.x.Cars = append(a.x.Cars, api.Car{Cap: api.Load{Seats: 1 + r.IntN(4), Wheels: r.IntN(2)}, Max: 10 + r.Int64N(100)})
	}
	width, held := r.Int64N(25), r.IntN(4)
	for i := range a.x.Stops {
		stop := &a.x.Stops[i]
		stop.Late, stop.Spot = day, complex(float64(r.IntN(side)), float64(r.IntN(side)))
		if i == 0 || i == 2*n+1 {
			stop.Early = r.Int64N(2) * r.Int64N(20)
			continue
		}
		stop.Service = max(0, r.Int64N(6)-2)
		if r.IntN(4) < held {
			stop.Early = r.Int64N(day)
			stop.Late = min(day, stop.Early+width)
		}
	}
	ride := 2 + r.Int64N(40)
	for i := range n {
		a.x.Rides = append(a.x.Rides, ride)
		on := api.Load{Seats: r.IntN(3), Wheels: max(0, r.IntN(6)-4)}
		a.x.Stops[1+i].Load, a.x.Stops[1+n+i].Load = on, api.Load{Seats: -on.Seats, Wheels: -on.Wheels}
	}
	if r.IntN(2) == 0 {
		for range a.x.Stops {
			times := make([]int64, 2*n+2)
			for i := range times {
				times[i] = r.Int64N(int64(side) + 1)
			}
			a.x.Matrix = append(a.x.Matrix, times)
		}
	}
	a.begin(r, n)
	return a
}

// begin draws who was driven, is on board, and waits, and pins.
func (a *ask) begin(r *rand.Rand, n int) {
	for _, i := range r.Perm(n) {
		switch r.IntN(6) {
		case 0:
		case 1:
			a.prefix = append(a.prefix, 1+i)
		case 2:
			a.prefix = slices.Insert(a.prefix, 1+r.IntN(len(a.prefix)), 1+i)
			a.prefix = append(a.prefix, 1+n+i)
		default:
			a.waiting = append(a.waiting, 1+i)
		}
	}
	if r.IntN(2) == 0 {
		return
	}
	time := r.Int64N(12)
	for i := range r.IntN(len(a.prefix) + 1) {
		if r.IntN(5) > 0 {
			a.pins = append(a.pins, api.Pin{At: i, Time: time})
		}
		time += r.Int64N(20)
	}
	r.Shuffle(len(a.pins), func(i, j int) { a.pins[i], a.pins[j] = a.pins[j], a.pins[i] })
}

// P15.1, P15.2: what is drawn, against all orders that there are.
func TestBestOfDrawnRequests(t *testing.T) {
	r := rand.New(rand.NewPCG(15, 1))
	none, some, ties := 0, 0, 0
	for i := range 12000 {
		n := 1 + r.IntN(4)
		if i%100 == 0 {
			n = 5
		}
		a := drawn(r, n)
		want, as := a.wanted(t)
		if got := a.best(); !got.same(want) {
			t.Fatalf("%+v: %v, not %v", a, got, want)
		}
		switch {
		case want.e != api.OK:
			none++
		case as > 1:
			ties++
		default:
			some++
		}
	}
	if none < 2000 || some < 2000 || ties < 500 {
		t.Errorf("there are none of %d, one of %d, more of %d", none, some, ties)
	}
}

// P15.2: a car's length, a ride and a window by one less, as long as there is an order, are told as all orders tell.
func TestTighterAndTighter(t *testing.T) {
	r := rand.New(rand.NewPCG(15, 2))
	tight := 0
	for range 300 {
		a := drawn(r, 1+r.IntN(3))
		least := []*int64{&a.x.Cars[a.car].Max, &a.x.Rides[r.IntN(len(a.x.Rides))], &a.x.Stops[1+r.IntN(len(a.x.Stops)-1)].Late}
		for got := a.best(); got.e == api.OK; got = a.best() {
			number := least[r.IntN(len(least))]
			*number -= 1 + r.Int64N(3)
			if inst.Check(a.x) != api.OK {
				break
			}
			want, _ := a.wanted(t)
			if now := a.best(); !now.same(want) {
				t.Fatalf("%+v: %v, not %v", a, now, want)
			}
			tight++
		}
	}
	if tight < 1000 {
		t.Errorf("%d times only", tight)
	}
}

// far is so many requests, whose stops are 100 from each other, but for those that are told: from, to, and the time.
func far(n int, near ...[3]int) api.Instance {
	x := at(n, make([][2]float64, n)...)
	for range x.Stops {
		x.Matrix = append(x.Matrix, slices.Repeat([]int64{100}, 2*n+2))
	}
	for _, way := range near {
		x.Matrix[way[0]][way[1]] = int64(way[2])
	}
	return x
}

// P15.2: what begins cheaper, of the same stops and with the same last one, may still be what can't go on, as a ride by the shorter way to the end would be too long.
func TestDearerBeginnings(t *testing.T) {
	// 1 is aboard for 5 less, when he comes ahead of 2.
	longer := ask{prefix: []int{0}, waiting: []int{1, 2, 3}, x: far(3, [3]int{0, 1, 0}, [3]int{1, 2, 3}, [3]int{2, 3, 0}, [3]int{0, 2, 3}, [3]int{2, 1, 1}, [3]int{1, 3, 0},
		[3]int{3, 6, 0}, [3]int{6, 4, 5}, [3]int{3, 4, 1}, [3]int{4, 6, 0}, [3]int{4, 5, 0}, [3]int{6, 5, 0}, [3]int{5, 7, 0})}
	longer.x.Rides = []int64{5, 1000, 0}
	longer.tellRow(t, "one rides for longer", 9, 0, 2, 1, 3, 6, 4, 5, 7)

	// 4 begins later, when 2 comes ahead of 3.
	later := ask{prefix: []int{0, 1}, waiting: []int{2, 3, 4}, pins: []api.Pin{{At: 1, Time: 0}}, x: far(4, [3]int{0, 1, 0}, [3]int{1, 2, 0}, [3]int{2, 3, 1}, [3]int{3, 4, 1}, [3]int{1, 3, 2}, [3]int{3, 2, 2}, [3]int{2, 4, 0},
		[3]int{4, 8, 0}, [3]int{8, 5, 5}, [3]int{4, 5, 1}, [3]int{5, 8, 0}, [3]int{8, 6, 0}, [3]int{5, 6, 0}, [3]int{6, 7, 0}, [3]int{7, 9, 0})}
	later.x.Rides = []int64{9, 1000, 1000, 0}
	later.x.Stops[2].Early = 4
	later.tellRow(t, "the last one begins later", 9, 0, 1, 3, 2, 4, 8, 5, 6, 7, 9)

	// 1 can wait for less, when 2, whom he comes ahead of, can.
	sooner := ask{prefix: []int{0}, waiting: []int{1, 2, 3}, x: far(3, [3]int{0, 1, 0}, [3]int{1, 2, 1}, [3]int{2, 3, 0}, [3]int{0, 2, 1}, [3]int{2, 1, 1}, [3]int{1, 3, 1},
		[3]int{3, 6, 0}, [3]int{6, 4, 5}, [3]int{3, 4, 1}, [3]int{4, 6, 0}, [3]int{6, 5, 0}, [3]int{4, 5, 0}, [3]int{5, 7, 0})}
	sooner.x.Rides = []int64{9, 1000, 0}
	sooner.x.Stops[2].Late = 3
	sooner.x.Stops[3].Early, sooner.x.Stops[3].Late = 10, 10
	sooner.tellRow(t, "one must begin sooner", 8, 0, 2, 1, 3, 6, 4, 5, 7)

	// 3 can't wait till 4 can be picked up, for he is picked up ahead of 1's drop, and 1 ahead of 2.
	between := ask{prefix: []int{0}, waiting: []int{1, 2, 3, 4}, x: far(4, [3]int{0, 1, 0}, [3]int{1, 2, 0}, [3]int{2, 3, 0}, [3]int{3, 5, 0}, [3]int{5, 4, 0}, [3]int{4, 7, 0}, [3]int{7, 6, 0}, [3]int{6, 8, 0}, [3]int{8, 9, 0},
		[3]int{2, 5, 1}, [3]int{5, 3, 1}, [3]int{3, 4, 1})}
	between.x.Rides = []int64{5, 1000, 40, 1000}
	between.x.Stops[2].Late, between.x.Stops[4].Early = 3, 50
	between.tellRow(t, "one can't wait as long", 3, 0, 1, 2, 5, 3, 4, 7, 6, 8, 9)
	for _, a := range []ask{longer, later, sooner, between} {
		if want, _ := a.wanted(t); !a.best().same(want) {
			t.Errorf("%v, not %v", a.best(), want)
		}
	}
}

// all is the requests from 1 to 8.
var all = []int{1, 2, 3, 4, 5, 6, 7, 8}

// eight is eight requests between drawn spots, with so many seats.
func eight(r *rand.Rand, seats int) ask {
	x := at(seats, make([][2]float64, 8)...)
	for i := range x.Stops {
		x.Stops[i].Spot = complex(float64(r.IntN(30)), float64(r.IntN(30)))
	}
	return ask{x: x, prefix: []int{0}, waiting: all}
}

// P15.2: where nothing holds eight, it is the row that layer 14 goes from Next to Next.
func TestEightThatNothingHolds(t *testing.T) {
	r := rand.New(rand.NewPCG(15, 3))
	for range 5 {
		a := eight(r, 8)
		d, _ := todo.New(a.x, a.prefix, a.waiting)
		b := bound.New(a.x, d)
		var order []int
		for mask, next := uint32(0), b.Next(0, -1); next >= 0; next = b.Next(mask, next) {
			order = append(order, next)
			mask |= 1 << next
		}
		a.tellRow(t, "drawn", b.Least(), d.Row(order)...)
	}
}

// P15.2: with a seat alone eight are driven one by one, in the best of all orders of them.
func TestEightWithOneSeat(t *testing.T) {
	r := rand.New(rand.NewPCG(15, 4))
	for range 2 {
		a := eight(r, 1)
		var best []int
		cost := int64(math.MaxInt64)
		var row func(row, left []int)
		row = func(gone, left []int) {
			if len(left) == 0 {
				whole := append(slices.Clone(gone), 17)
				if c := inst.Path(a.x, whole); c < cost {
					best, cost = whole, c
				}
			}
			for i, request := range left {
				row(append(slices.Clone(gone), request, request+8), slices.Delete(slices.Clone(left), i, i+1))
			}
		}
		row([]int{0}, all)
		a.tellRow(t, "one by one", cost, best...)
	}
}

// P15.2: eight, each of whom must be picked up and dropped at his own time, are driven in that order alone.
func TestEightOnTime(t *testing.T) {
	r := rand.New(rand.NewPCG(15, 5))
	for range 5 {
		a := eight(r, 8)
		row := []int{0}
		aboard := 0
		left := r.Perm(8)
		for len(row) < 17 {
			if i := r.IntN(8); slices.Contains(left, i) && aboard < 4 {
				left = slices.DeleteFunc(left, func(j int) bool { return i == j })
				row = append(row, 1+i)
				aboard++
			} else if slices.Contains(row, 1+i) && !slices.Contains(row, 9+i) {
				row = append(row, 9+i)
				aboard--
			}
		}
		for i, stop := range row[1:] {
			a.x.Stops[stop].Early = int64(50 * (i + 1))
			a.x.Stops[stop].Late = a.x.Stops[stop].Early + 3
		}
		row = append(row, 17)
		a.tellRow(t, "in time", inst.Path(a.x, row), row...)
		a.x.Stops[row[9]].Spot = 99
		a.tellNone(t, "one too far")
	}
}

// P1, P15.2: that there is none is told of eight, too, whatever it is that can't be, though there be 81729648000 orders.
func TestNoOrderOfEight(t *testing.T) {
	for _, c := range []struct {
		what string
		turn func(a *ask)
	}{
		{"nobody has a seat", func(a *ask) { a.x.Cars[0].Cap.Seats = 0 }},
		{"one is too many", func(a *ask) { a.x.Stops[8].Load.Seats, a.x.Stops[16].Load.Seats = 9, -9 }},
		{"one rides too long", func(a *ask) { a.x.Stops[8].Spot, a.x.Rides[7] = 9, 8 }},
		{"one waits too long", func(a *ask) {
			a.x.Stops[8].Late, a.x.Stops[16].Early = 10, 100
			a.x.Rides[7] = 89
		}},
		{"one is too far", func(a *ask) { a.x.Stops[16].Spot, a.x.Stops[16].Late = 99, 98 }},
		{"one ends too early", func(a *ask) { a.x.Stops[8].Early, a.x.Stops[16].Late = 100, 99 }},
		{"one ends too late", func(a *ask) { a.x.Stops[16].Early, a.x.Stops[17].Late = 101, 100 }},
		{"two are too far from each other", func(a *ask) {
			a.x.Stops[1].Spot, a.x.Stops[1].Early, a.x.Stops[1].Late = 99, 200, 210
			a.x.Stops[2].Spot, a.x.Stops[2].Early, a.x.Stops[2].Late = -1, 111, 299
		}},
		{"the day is too short", func(a *ask) {
			for i := range a.x.Stops[1:17] {
				a.x.Stops[1+i].Service = 10
			}
			a.x.Cars[0].Max = 159
		}},
		{"the day is too long", func(a *ask) { a.x.Stops[1].Late, a.x.Stops[16].Early, a.x.Cars[0].Max = 10, 500, 489 }},
		{"it is too late for all", func(a *ask) { a.clock = 1001 }},
		{"the depot is shut", func(a *ask) { a.x.Stops[17].Late, a.clock = 4, 5 }},
	} {
		a := ask{x: at(8, make([][2]float64, 8)...), prefix: []int{0}, waiting: all}
		a.tellRow(t, "all at one place", 0, 0, 1, 2, 3, 4, 5, 6, 7, 8, 9, 10, 11, 12, 13, 14, 15, 16, 17)
		c.turn(&a)
		a.tellNone(t, c.what)
	}
}

// held is eight requests, by windows, rides, a day and seats of which one thing or another holds.
func held(r *rand.Rand) ask {
	a := eight(r, 3+r.IntN(3))
	a.x.Cars[0].Max = 300 + r.Int64N(150)
	for i := range all {
		if r.IntN(3) == 0 {
			stop := &a.x.Stops[1+r.IntN(16)]
			stop.Early = r.Int64N(300)
			stop.Late = stop.Early + 50 + r.Int64N(150)
		}
		a.x.Rides[i] = 30 + r.Int64N(60)
	}
	for i := range a.x.Stops[1:17] {
		a.x.Stops[1+i].Service = r.Int64N(4)
	}
	return a
}

// renumbered is a, with the requests of 8 by other numbers.
func (a ask) renumbered(numbers []int) ask {
	x := a.x
	x.Stops, x.Rides = slices.Clone(x.Stops), slices.Clone(x.Rides)
	for i, j := range numbers {
		x.Rides[j], x.Stops[1+j], x.Stops[9+j] = a.x.Rides[i], a.x.Stops[1+i], a.x.Stops[9+i]
	}
	a.x = x
	return a
}

// P15.2: of eight who are held there is an order, and of what cost, whatever their numbers; and the rest of the cheapest one is the cheapest one of the rest.
func TestEightThatAreHeld(t *testing.T) {
	r := rand.New(rand.NewPCG(15, 8))
	found := 0
	for range 12 {
		a := held(r)
		got := a.best()
		if b := a.renumbered(r.Perm(8)).best(); b.cost != got.cost || b.e != got.e {
			t.Errorf("%+v: %v, by other numbers %v", a, got, b)
		}
		if got.e != api.OK {
			continue
		}
		found++
		if !rule.Hold(a.x, 0, got.row, 0, nil, got.times) {
			t.Errorf("%+v: %v doesn't hold", a, got)
		}
		for i := 1; i < 17; i++ {
			a.prefix = got.row[:i]
			a.waiting = slices.DeleteFunc(slices.Clone(all), func(n int) bool { return slices.Contains(a.prefix, n) })
			a.tellRow(t, "the rest", got.cost, got.row...)
		}
	}
	if found < 3 || found == 12 {
		t.Errorf("%d of 12 can be driven", found)
	}
}

// P1, P15.2: each can be driven, and the day is long enough for all, but for no two trips of four, who alone can ride together.
func TestEightInTwoTrips(t *testing.T) {
	places := slices.Repeat([][2]float64{{0, 50}}, 8)
	a := ask{x: at(8, places...), prefix: []int{0}, waiting: all}
	for i := range all {
		a.x.Stops[1+i].Service = 1
		a.x.Rides[i] = 53
	}
	a.x.Stops[17].Late = 4*50 + 8
	a.tellRow(t, "in two trips", 200, 0, 1, 2, 3, 4, 9, 10, 11, 12, 5, 6, 7, 8, 13, 14, 15, 16, 17)
	a.x.Stops[17].Late--
	a.tellNone(t, "a day that is too short")
	a.x.Stops[17].Late = 1000
	for i := range all {
		a.x.Rides[i] = 52
	}
	a.tellRow(t, "in three trips", 300, 0, 1, 2, 3, 9, 10, 11, 4, 5, 6, 12, 13, 14, 7, 8, 15, 16, 17)
}

// P15.2: eight who are on board, at one time pinned, are dropped by their rides, the shortest first.
func TestEightOnBoard(t *testing.T) {
	a := ask{x: at(8, make([][2]float64, 8)...), prefix: append([]int{0}, all...), pins: []api.Pin{{At: 8, Time: 20}, {At: 0, Time: 0}, {At: 1, Time: 20}}}
	row := slices.Clone(a.prefix)
	for i := range a.x.Rides {
		drop := 9 + (i*3+4)%8
		a.x.Stops[drop].Service = 5
		a.x.Rides[drop-9] = int64(5 * i)
		row = append(row, drop)
	}
	a.tellRow(t, "just so", 0, append(row, 17)...)
	a.x.Rides[row[10]-9]--
	a.tellNone(t, "one by one less")
}

// P15.1: the longest times, and as many of them as may be.
func TestTheBounds(t *testing.T) {
	a := eight(rand.New(rand.NewPCG(15, 6)), 8)
	a.x.Cars[0].Max = api.MaxTime
	for i := range a.x.Stops {
		a.x.Stops[i].Late = api.MaxTime
		times := slices.Repeat([]int64{api.MaxTime}, 18)
		times[i] = 0
		a.x.Matrix = append(a.x.Matrix, times)
	}
	a.tellNone(t, "too far")
	a.waiting = nil
	a.x.Stops[0].Late = 0
	a.tell(t, "just home", answer{[]int{0, 17}, api.MaxTime, []int64{0, api.MaxTime}, api.OK})
	a.clock = api.MaxTime
	a.tellNone(t, "it is late")
	for i := range a.x.Matrix {
		clear(a.x.Matrix[i])
		a.x.Stops[i].Early, a.x.Stops[i].Late = api.MaxTime, api.MaxTime
	}
	a.waiting = all
	row := []int{0, 1, 2, 3, 4, 5, 6, 7, 8, 9, 10, 11, 12, 13, 14, 15, 16, 17}
	a.tell(t, "all at the last time", answer{row, 0, slices.Repeat([]int64{api.MaxTime}, 18), api.OK})
	a.x.Stops[1].Service, a.clock = api.MaxTime, 0
	a.tellNone(t, "a service without an end")
}

// P15.1: the longest row, all of it driven but for eight.
func TestTheLongestRow(t *testing.T) {
	const n = api.MaxStops/2 - 1
	x := at(2, make([][2]float64, n)...)
	for i := range x.Stops {
		x.Stops[i].Late = api.MaxTime
	}
	a := ask{x: x, prefix: []int{0}}
	for request := 1; request <= n-8; request++ {
		a.prefix = append(a.prefix, request, n+request)
	}
	a.x.Stops[n+n-8].Spot = 7 // the last drop of the prefix: home from there
	// There are two seats, so from the third one on a drop comes ahead of each pickup.
	row := slices.Clone(a.prefix)
	for request := n - 7; request <= n; request++ {
		a.waiting = append(a.waiting, request)
		if request > n-6 {
			row = append(row, n+request-2)
		}
		row = append(row, request)
	}
	row = append(row, 2*n-1, 2*n, 2*n+1)
	a.tellRow(t, "long", 14, row...)
	if !rule.Hold(x, 0, row, 0, nil, a.best().times) {
		t.Error("its times don't hold")
	}
	a.x.Cars[0].Cap.Seats = 0
	a.tellNone(t, "no seat")
}

// P15.1: Count, against layer 13's orders, and where these are more than it counts.
func TestCount(t *testing.T) {
	x := at(8, make([][2]float64, 12)...)
	for waiting := range 5 {
		for aboard := range 6 {
			if waiting+aboard > 5 {
				continue
			}
			prefix, waits := []int{0, 12, 24}, []int(nil)
			for i := range aboard {
				prefix = append(prefix, 1+i)
			}
			for i := range waiting {
				waits = append(waits, 11-i)
			}
			d, _ := todo.New(x, prefix, waits)
			many := 0
			for range d.Orders() {
				many++
			}
			if n, e := Count(x, prefix, waits); n != many || e != api.OK {
				t.Errorf("%d wait, %d are on board: %d, %d, not %d", waiting, aboard, n, e, many)
			}
		}
	}
	for _, c := range []struct {
		prefix, waiting []int
		n               int
		e               api.Errno
	}{
		{[]int{0}, all, 1000000, api.OK},
		{[]int{0, 9}, []int{1, 2, 3, 4, 5, 6, 7}, 1000000, api.OK},
		{[]int{0}, []int{1, 2, 3, 4, 5}, 113400, api.OK},
		{[]int{0}, []int{1, 2, 3, 4, 5, 6}, 1000000, api.OK},
		{[]int{0, 1, 2, 3, 4, 5, 6, 7, 8}, nil, 40320, api.OK},
		{[]int{0, 1, 2, 3, 4, 5, 6, 7}, []int{8}, 181440, api.OK},
		{[]int{0, 1, 2, 3, 4, 5, 6}, []int{7, 8}, 907200, api.OK},
		{nil, nil, 0, api.ErrDepot},
		{[]int{0, 0}, nil, 0, api.ErrNode},
		{[]int{0, 13}, nil, 0, api.ErrPair},
		{[]int{0}, []int{0}, 0, api.ErrNone},
		{[]int{0}, []int{1, 1}, 0, api.ErrTwice},
		{[]int{0, 9}, all, 0, api.ErrMany},
	} {
		if n, e := Count(x, c.prefix, c.waiting); n != c.n || e != c.e {
			t.Errorf("%v, %v: %d, %d", c.prefix, c.waiting, n, e)
		}
	}
	if n, e := Count(api.Instance{}, []int{0}, nil); n != 0 || e != api.ErrArg {
		t.Errorf("no instance: %d, %d", n, e)
	}
}

// P2, P15.1: what is handed in stays, spare room too; what is answered is new memory, and the same again.
func TestWhatIsHandedInStays(t *testing.T) {
	r := rand.New(rand.NewPCG(15, 7))
	for range 200 {
		a := drawn(r, 1+r.IntN(4))
		prefix := append(make([]int, 0, 40), a.prefix...)
		waiting := append(make([]int, 0, 40), a.waiting...)
		pins := append(make([]api.Pin, 0, 40), a.pins...)
		b := a
		b.prefix, b.waiting, b.pins = prefix, waiting, pins
		b.x.Cars, b.x.Stops, b.x.Rides = slices.Clone(a.x.Cars), slices.Clone(a.x.Stops), slices.Clone(a.x.Rides)
		b.x.Matrix = slices.Clone(a.x.Matrix)
		for i := range b.x.Matrix {
			b.x.Matrix[i] = slices.Clone(a.x.Matrix[i])
		}
		got := b.best()
		row, times := slices.Clone(got.row), slices.Clone(got.times)
		if !inst.Same(a.x, b.x) || !slices.Equal(prefix, a.prefix) || !slices.Equal(waiting, a.waiting) || !slices.Equal(pins, a.pins) {
			t.Fatalf("%+v became %+v", a, b)
		}
		if slices.Max(prefix[:40][len(prefix):]) != 0 || slices.Max(waiting[:40][len(waiting):]) != 0 || slices.ContainsFunc(pins[:40][len(pins):], func(p api.Pin) bool { return p != api.Pin{} }) {
			t.Fatal("spare room was written to")
		}
		clear(got.row[:cap(got.row)])
		clear(got.times[:cap(got.times)])
		if !b.best().same(answer{row, got.cost, times, got.e}) || !slices.Equal(prefix, a.prefix) {
			t.Fatalf("%+v: another answer", a)
		}
	}
}
