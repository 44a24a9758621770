package search

import (
	"math"
	"math/rand/v2"
	"slices"
	"testing"

	"jitney/api"
	"jitney/insert"
	"jitney/inst"
	"jitney/order"
	"jitney/regret"
	"jitney/sched"
)

// drawnInstance is an instance of a few requests, with windows, and a Matrix as often as none.
func drawnInstance(draws *rand.Rand) api.Instance {
	n, wide := draws.IntN(8), 1+draws.Int64N(2)*300
	x := lying(nil, make([][2]complex128, n)...)
	for range 1 + draws.IntN(3) {
		x.Cars = append(x.Cars, api.Car{Cap: api.Load{Seats: 1 + draws.IntN(3), Wheels: draws.IntN(2)}, Max: 60 + draws.Int64N(300)})
	}
	for i := range x.Stops {
		s := &x.Stops[i]
		s.Spot = complex(float64(draws.IntN(9)-4), float64(draws.IntN(9)-4))
		s.Early = draws.Int64N(60) * draws.Int64N(2)
		s.Late = s.Early + 5 + draws.Int64N(40+wide)
	}
	for i := range n {
		x.Rides[i] = 8 + draws.Int64N(80)
		on := api.Load{Seats: draws.IntN(3), Wheels: draws.IntN(5) / 4}
		x.Stops[1+i].Load, x.Stops[1+n+i].Load = on, api.Load{Seats: -on.Seats, Wheels: -on.Wheels}
		x.Stops[1+i].Service, x.Stops[1+n+i].Service = draws.Int64N(3), draws.Int64N(3)
	}
	x.Stops[0].Early, x.Stops[2*n+1].Late = 0, 500
	if draws.IntN(2) == 0 {
		x = timed(x, 0)
		most := []int64{3, 15, 60}[draws.IntN(3)]
		for _, times := range x.Matrix {
			for i := range times {
				times[i] = draws.Int64N(most)
			}
		}
	}
	return x
}

// drawnAsk is right tours, in which some stand where there was a place, as often as not with pins, and a list of some; if odd ones may be, now and then a tour too many, a request in two, or a row that isn't right.
func drawnAsk(draws *rand.Rand, odd bool) ask {
	a := ask{x: drawnInstance(draws), steps: draws.IntN(16) - 2}
	a.tours = regret.Start(a.x, 0)
	for _, i := range draws.Perm(len(a.x.Rides)) {
		for range draws.IntN(3) / 2 * (1 + draws.IntN(2)) {
			a.addDrawn(draws, draws.IntN(len(a.tours)), i+1, odd)
		}
		for range draws.IntN(3) {
			a.list = append(a.list, i+1)
		}
	}
	for range draws.IntN(3) {
		a.list = append(a.list, draws.IntN(12)-2)
	}
	for car, t := range a.tours {
		r, e := sched.Plan(a.x, car, t.Seq, 0, nil)
		if e == api.OK && draws.IntN(3) == 0 {
			a.tours[car] = tour(t.Seq, r.Times[:draws.IntN(len(r.Times)+1)]...)
		}
		if odd && draws.IntN(12) == 0 {
			t.Seq[draws.IntN(len(t.Seq))] = draws.IntN(len(a.x.Stops)+2) - 1
		}
	}
	if odd && draws.IntN(12) == 0 {
		a.tours = append(a.tours, tour(slices.Clone(a.tours[0].Seq)))
	} else if draws.IntN(12) == 0 {
		a.tours = a.tours[:draws.IntN(len(a.tours))]
	}
	for range draws.IntN(6) {
		a.draws = append(a.draws, []int{draws.IntN(9), draws.Int() - draws.Int(), math.MinInt, math.MaxInt}[draws.IntN(4)])
	}
	a.clock = draws.Int64N(20) * draws.Int64N(2)
	return a
}

// addDrawn puts a request into a tour where there is a place; one that stands already only if it may stand twice.
func (a ask) addDrawn(draws *rand.Rand, car, request int, twice bool) {
	places := slices.Collect(insert.All(a.x, car, a.tours[car], 0, request))
	if len(places) > 0 && (twice || stands(a.tours, request) == 0) {
		a.tours[car] = insert.Put(a.x, a.tours[car], request, places[draws.IntN(len(places))])
	}
}

// P21.1, P21.2: all that the chapter says holds of drawn tours, of those that aren't right too; with no steps it's no worse than what is filled, with some no worse than with none; the same is answered again.
func TestImproveOfDrawnTours(t *testing.T) {
	draws := rand.New(rand.NewPCG(1, 2))
	wrong, won, more, left, frozen := 0, 0, 0, 0, 0
	for range 3000 {
		a := drawnAsk(draws, draws.IntN(3) == 0)
		got, rest := a.improve()
		a.holds(t, got, rest)
		again, restThen := a.improve()
		if !sameTours(got, again) || !slices.Equal(rest, restThen) {
			t.Fatalf("%+v: %v, and then %v", a, got, again)
		}
		if !a.fine() {
			wrong++
			continue
		}
		none := a
		none.steps = min(a.steps, 0)
		still, restOfNone := none.improve()
		none.holds(t, still, restOfNone)
		filled, _ := regret.Fill(a.x, a.tours, a.clock, a.list)
		if better(a.x, filled, still) || better(a.x, still, got) {
			t.Fatalf("%+v: %v, with no steps %v, filled %v", a, got, still, filled)
		}
		if better(a.x, got, still) {
			won++
		}
		if len(rest) < len(restOfNone) {
			more++
		}
		left += len(rest)
		for i := range got {
			if len(got[i].Pins) > 2 && !slices.Equal(got[i].Seq, a.tours[i].Seq) {
				frozen++
			}
		}
	}
	if wrong < 250 || won < 200 || more < 8 || left < 2000 || frozen < 40 {
		t.Errorf("hardly asked: %d aren't right, %d are better, %d serve more, %d left, %d tours turned behind frozen stops", wrong, won, more, left, frozen)
	}
}

// P21.1: Better of drawn tours is as the chapter's words.
func TestBetterOfDrawnTours(t *testing.T) {
	draws := rand.New(rand.NewPCG(3, 4))
	is, alike := 0, 0
	for range 6000 {
		a := drawnAsk(draws, true)
		others := cloned(a.tours)
		for range draws.IntN(4) {
			if len(others) == 0 {
				break
			}
			seq := others[draws.IntN(len(others))].Seq
			seq[draws.IntN(len(seq))] = draws.IntN(len(a.x.Stops)+2) - 1
		}
		want, back := better(a.x, a.tours, others), better(a.x, others, a.tours)
		if Better(a.x, a.tours, others) != want || Better(a.x, others, a.tours) != back {
			t.Fatalf("%+v, %v: not %v, %v", a, others, want, back)
		}
		if want != back {
			is++
		} else {
			alike++
		}
	}
	if is < 1000 || alike < 1000 {
		t.Errorf("hardly asked: %d are better, %d alike", is, alike)
	}
}

// copiedInstance is an instance in memory of its own.
func copiedInstance(x api.Instance) api.Instance {
	x.Cars, x.Stops, x.Rides, x.Matrix = slices.Clone(x.Cars), slices.Clone(x.Stops), slices.Clone(x.Rides), slices.Clone(x.Matrix)
	for i := range x.Matrix {
		x.Matrix[i] = slices.Clone(x.Matrix[i])
	}
	return x
}

// whole is tours with what lies behind their lists' lengths.
func whole(tours []api.Tour) []api.Tour {
	var all []api.Tour
	for _, one := range tours {
		all = append(all, api.Tour{Seq: one.Seq[:len(one.Seq)+2], Pins: one.Pins[:len(one.Pins)+1]})
	}
	return all
}

// What is handed in stays as it is, what lies behind it too, and what is answered is new memory, spare room too.
func TestImproveSharesNothing(t *testing.T) {
	draws := rand.New(rand.NewPCG(5, 6))
	for range 1000 {
		a := drawnAsk(draws, true)
		for i, one := range a.tours {
			a.tours[i] = api.Tour{Seq: append(one.Seq, 70, 71)[:len(one.Seq)], Pins: append(one.Pins, api.Pin{At: 72})[:len(one.Pins)]}
		}
		a.list, a.draws = append(a.list, 3, 2)[:len(a.list)], append(a.draws, 7)[:len(a.draws)]
		kept := ask{x: copiedInstance(a.x), tours: cloned(whole(a.tours)), list: slices.Clone(a.list[:len(a.list)+2]), draws: slices.Clone(a.draws[:len(a.draws)+1])}
		got, left := a.improve()
		Better(a.x, a.tours, got)
		lists := [][]int{left}
		for _, one := range got {
			lists = append(lists, one.Seq)
		}
		for i, list := range lists {
			list = list[:cap(list)]
			for j := range list {
				list[j] = 100 + i
			}
		}
		for i, one := range got {
			pins := one.Pins[:cap(one.Pins)]
			for j := range pins {
				pins[j].At = 100 + i
			}
		}
		for i, list := range lists {
			if slices.ContainsFunc(list[:cap(list)], func(n int) bool { return n != 100+i }) {
				t.Fatalf("list %d is shared: %v", i, list)
			}
		}
		for i, one := range got {
			if slices.ContainsFunc(one.Pins[:cap(one.Pins)], func(p api.Pin) bool { return p.At != 100+i }) {
				t.Fatalf("pins %d are shared: %v", i, one.Pins)
			}
		}
		clear(got[:cap(got)])
		if !inst.Same(a.x, kept.x) || !slices.EqualFunc(whole(a.tours), kept.tours, sameTour) || !slices.Equal(a.list[:len(a.list)+2], kept.list) || !slices.Equal(a.draws[:len(a.draws)+1], kept.draws) {
			t.Fatalf("%+v: it is changed, from %+v", a, kept)
		}
	}
}

// P1: of what isn't an instance, and of whatever tours, nothing panics, and what isn't right stays.
func TestImproveOfAnything(t *testing.T) {
	draws := rand.New(rand.NewPCG(7, 8))
	number := func() int {
		return []int{-1, 0, 1, 2, 3, 4, 5, 9, math.MinInt, math.MaxInt}[draws.IntN(10)]
	}
	numbers := func() []int {
		list := make([]int, draws.IntN(6))
		for i := range list {
			list[i] = number()
		}
		return list
	}
	for range 10000 {
		a := drawnAsk(draws, true)
		a.steps = min(number(), 9)
		for range 1 + draws.IntN(2) {
			switch draws.IntN(6) {
			case 0:
				a.x.Stops = a.x.Stops[:draws.IntN(len(a.x.Stops)+1)]
			case 1:
				a.x.Cars = a.x.Cars[:draws.IntN(len(a.x.Cars)+1)]
			case 2:
				a.x.Rides = append(a.x.Rides, int64(number()))
			case 3:
				a.x.Matrix = append(a.x.Matrix, []int64{int64(number())})
			case 4:
				a.tours = append(a.tours, api.Tour{Seq: numbers(), Pins: make([]api.Pin, draws.IntN(3))})
			case 5:
				a.clock = int64(number())
			}
		}
		a.list, a.draws = append(a.list, numbers()...), numbers()
		got, left := a.improve()
		a.holds(t, got, left)
		if Better(a.x, got, a.tours) != better(a.x, got, a.tours) {
			t.Fatalf("%+v, %v: Better", a, got)
		}
	}
}

// day is many requests, some of whom can't be served, with so many cars.
func day(draws *rand.Rand, n, cars int) api.Instance {
	x := lying(slices.Repeat([]int{2}, cars), make([][2]complex128, n)...)
	for i := range x.Stops {
		x.Stops[i].Spot = complex(float64(draws.IntN(41)-20), float64(draws.IntN(41)-20))
	}
	for i := range n {
		x.Rides[i] = 60
		early := draws.Int64N(500)
		x.Stops[1+i].Early, x.Stops[1+i].Late, x.Stops[1+i].Service = early, early+30, 3
	}
	return x
}

// upTo is the numbers from 1 to n.
func upTo(n int) []int {
	var list []int
	for i := range n {
		list = append(list, i+1)
	}
	return list
}

// P21.1, P21.2: days of many requests come to better tours than those that are filled, and seeded, and serve more.
func TestImproveOfDays(t *testing.T) {
	draws := rand.New(rand.NewPCG(9, 10))
	more := 0
	for range 5 {
		x := day(draws, 40, 4)
		a := ask{x: x, tours: regret.Start(x, 0), list: upTo(40), steps: 60, draws: []int{3, 14, 15, 92, 65}}
		got, left := a.improve()
		a.holds(t, got, left)
		filled, rest := regret.Fill(x, a.tours, 0, a.list)
		seeded, _ := regret.Seed(x, 0, a.list)
		if !better(x, got, filled) || !better(x, got, seeded) {
			t.Errorf("%v isn't better than %v, or %v", got, filled, seeded)
		}
		if len(left) < len(rest) {
			more++
		}
		// Those that were made are improved again, half frozen.
		then := a
		then.tours, then.clock, then.steps = nil, 150, 20
		for car, one := range got {
			r, _ := sched.Plan(x, car, one.Seq, 0, nil)
			begun := slices.DeleteFunc(r.Times, func(time int64) bool { return time > 150 }) // they rise
			then.tours = append(then.tours, tour(one.Seq, begun...))
		}
		if !then.fine() {
			t.Fatalf("%+v: not right", then)
		}
		got, left = then.improve()
		then.holds(t, got, left)
	}
	if more < 3 {
		t.Errorf("hardly better: more are served on %d days of 5", more)
	}
}

// P21.1: of days on which most are left nobody who is has a place.
func TestImproveOfFullDays(t *testing.T) {
	draws := rand.New(rand.NewPCG(13, 14))
	more := 0
	for range 6 {
		x := day(draws, 40, 1+draws.IntN(2))
		a := ask{x: x, tours: regret.Start(x, 0), list: upTo(40), steps: 25, draws: []int{27, 18, 28}}
		got, left := a.improve()
		a.holds(t, got, left)
		_, rest := regret.Fill(x, a.tours, 0, a.list)
		if len(rest) < 10 {
			t.Fatalf("only %d are left", len(rest))
		}
		if len(left) < len(rest) {
			more++
		}
	}
	if more < 4 {
		t.Errorf("hardly better: more are served on %d days of 6", more)
	}
}

// cheapest is what serves all requests of an instance with two cars, at the least cost that there is, and whether they can be.
func cheapest(x api.Instance) (int64, bool) {
	n := len(x.Rides)
	costs := [2][]int64{}
	for car := range costs {
		for mask := range 1 << n {
			var list []int
			for i := range n {
				if mask&(1<<i) != 0 {
					list = append(list, i+1)
				}
			}
			_, cost, _, e := order.Best(x, car, nil, []int{0}, list, 0)
			if e != api.OK {
				cost = math.MaxInt64 / 4
			}
			costs[car] = append(costs[car], cost)
		}
	}
	best := int64(math.MaxInt64 / 4)
	for mask, cost := range costs[0] {
		best = min(best, cost+costs[1][len(costs[1])-1-mask])
	}
	return best, best < math.MaxInt64/4
}

// Of a few requests most of what there is to be found is found: whence no single move leads to better tours, too.
func TestImproveFindsTheBest(t *testing.T) {
	draws := rand.New(rand.NewPCG(15, 16))
	all, found, filled := 0, 0, 0
	for all < 30 {
		x := day(draws, 5, 2)
		for i := range x.Stops[:6] {
			x.Stops[i].Early /= 5
			x.Stops[i].Late = x.Stops[i].Early + 80
		}
		want, ok := cheapest(x)
		if !ok {
			continue
		}
		all++
		a := ask{x: x, tours: regret.Start(x, 0), list: upTo(5), steps: 300, draws: []int{3, 1, 4, 1, 5, 9, 2, 6}}
		got, left := a.improve()
		a.holds(t, got, left)
		tours, rest := regret.Fill(x, a.tours, 0, a.list)
		switch cost := regret.Cost(x, got); {
		case len(left) == 0 && cost < want:
			t.Fatalf("%+v: %v costs %d, but %d is the least", a, got, cost, want)
		case len(left) == 0 && cost == want:
			found++
		}
		if len(rest) == 0 && regret.Cost(x, tours) == want {
			filled++
		}
	}
	if found < 29 || filled > 15 {
		t.Errorf("of %d the best was found for %d, and by what is filled for %d", all, found, filled)
	}
}

// P21.1: above MaxSteps counts as that: of this day some 200 steps more would find better tours.
func TestMostSteps(t *testing.T) {
	a := ask{x: day(rand.New(rand.NewPCG(0, 12)), 30, 3), list: upTo(30), draws: []int{2, 7, 18, 28}}
	a.tours = regret.Start(a.x, 0)
	at := func(steps int) []api.Tour {
		a.steps = steps
		got, left := a.improve()
		a.holds(t, got, left)
		return got
	}
	if want, got := at(api.MaxSteps), at(math.MaxInt); !sameTours(got, want) {
		t.Errorf("%v, not %v", got, want)
	}
}
