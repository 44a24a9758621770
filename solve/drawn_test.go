package solve_test

import (
	"math"
	"math/rand/v2"
	"slices"
	"testing"

	"jitney/api"
	"jitney/insert"
	"jitney/inst"
	"jitney/order"
	"jitney/regret"
	"jitney/sched"
	"jitney/search"
	"jitney/solve"
)

// drawnInstance is an instance of up to so many requests, with windows, and a Matrix as often as none.
func drawnInstance(draws *rand.Rand, most int) api.Instance {
	n, wide := draws.IntN(most+1), 1+draws.Int64N(3)*150
	x := lying(nil, make([][2]float64, n)...)
	for range 1 + draws.IntN(3) {
		x.Cars = append(x.Cars, api.Car{Cap: api.Load{Seats: 1 + draws.IntN(4), Wheels: draws.IntN(3)}, Max: 60 + draws.Int64N(300)})
	}
	for i := range x.Stops {
		s := &x.Stops[i]
		s.Spot = complex(float64(draws.IntN(9)-4), float64(draws.IntN(9)-4))
		s.Early = draws.Int64N(60) * draws.Int64N(2)
		s.Late = s.Early + 10 + draws.Int64N(60+wide)
	}
	for i := range n {
		x.Rides[i] = 8 + draws.Int64N(100)
		on := api.Load{Seats: draws.IntN(5) / 2, Wheels: draws.IntN(5) / 4}
		x.Stops[1+i].Load, x.Stops[1+n+i].Load = on, api.Load{Seats: -on.Seats, Wheels: -on.Wheels}
		x.Stops[1+i].Service, x.Stops[1+n+i].Service = draws.Int64N(3), draws.Int64N(3)
	}
	x.Stops[0].Early, x.Stops[2*n+1].Late = 0, 500
	if draws.IntN(2) == 0 {
		most := []int64{3, 15, 60}[draws.IntN(3)]
		for range x.Stops {
			x.Matrix = append(x.Matrix, nil)
		}
		for i := range x.Matrix {
			for range x.Stops {
				x.Matrix[i] = append(x.Matrix[i], draws.Int64N(most))
			}
		}
	}
	return x
}

// ask is what Solve is asked.
type ask struct {
	x     api.Instance
	tours []api.Tour
	clock int64
	list  []int
	k     int
	steps int
	draws []int
}

func (a ask) solve() ([]api.Tour, api.Errno) {
	return solve.Solve(a.x, a.tours, a.clock, a.list, a.k, a.steps, a.draws)
}

// drawnAsk is right tours, in which some stand where there was a place, as often as not with pins, and hardly room for more, and a list of some; if odd ones may be, now and then something isn't as it must be.
func drawnAsk(draws *rand.Rand, most int, odd bool) ask {
	a := ask{x: drawnInstance(draws, most), k: 1 + draws.IntN(8), steps: max(0, draws.IntN(16)-5)}
	a.tours = regret.Start(a.x, 0)
	for _, i := range draws.Perm(len(a.x.Rides)) {
		for range min(2, draws.IntN(8)) {
			a.addDrawn(draws, draws.IntN(len(a.tours)), i+1, odd)
		}
		for range draws.IntN(3) {
			a.list = append(a.list, i+1)
		}
	}
	for range draws.IntN(3) {
		a.list = append(a.list, draws.IntN(12)-2)
	}
	for car, t := range a.tours {
		r, e := sched.Plan(a.x, car, t.Seq, 0, nil)
		if e == api.OK && draws.IntN(2) == 0 {
			a.tours[car] = tour(t.Seq, r.Times[:draws.IntN(len(r.Times)+1)]...)
		}
		if e == api.OK && draws.IntN(2) == 0 {
			a.x.Cars[car].Max = r.Length + draws.Int64N(3)
		}
	}
	for range draws.IntN(6) {
		a.draws = append(a.draws, []int{draws.IntN(9), draws.Int() - draws.Int(), math.MinInt, math.MaxInt}[draws.IntN(4)])
	}
	a.clock = draws.Int64N(20) * draws.Int64N(2)
	if odd {
		a.spoil(draws)
	}
	return a
}

// addDrawn puts a request into a tour where there is a place; one that stands already only if it may stand twice.
func (a ask) addDrawn(draws *rand.Rand, car, request int, twice bool) {
	places := slices.Collect(insert.All(a.x, car, a.tours[car], 0, request))
	if len(places) > 0 && (twice || stands(a.tours, request) == 0) {
		a.tours[car] = insert.Put(a.x, a.tours[car], request, places[draws.IntN(len(places))])
	}
}

// spoil turns things that may not be.
func (a *ask) spoil(draws *rand.Rand) {
	one := &a.tours[draws.IntN(len(a.tours))]
	for range draws.IntN(3) {
		switch draws.IntN(14) {
		case 0:
			a.tours = append(a.tours, tour(slices.Clone(one.Seq)))
		case 1:
			a.tours = a.tours[:max(0, len(a.tours)-1)]
		case 2:
			a.k = []int{0, -1, 9, math.MinInt, math.MaxInt}[draws.IntN(5)]
		case 3:
			a.steps = []int{-1, 1001, math.MinInt, math.MaxInt}[draws.IntN(4)]
		case 4:
			a.draws = make([]int, 4097)
		case 5, 6:
			one.Seq[draws.IntN(len(one.Seq))] = draws.IntN(len(a.x.Stops)+2) - 1
		case 7:
			a.clock = []int64{-1, 600, api.MaxTime, api.MaxTime + 1, math.MinInt64, math.MaxInt64}[draws.IntN(6)]
		case 8:
			a.x.Stops = a.x.Stops[:draws.IntN(len(a.x.Stops)+1)]
		case 9:
			a.x.Rides = append(a.x.Rides, draws.Int64N(9)-1)
		case 10:
			a.x.Cars = a.x.Cars[:draws.IntN(len(a.x.Cars)+1)]
		case 11:
			a.x.Matrix = append(a.x.Matrix, []int64{draws.Int64N(9)})
		case 12:
			one.Pins = append(one.Pins, api.Pin{At: draws.IntN(9) - 1, Time: draws.Int64N(99) - 1})
		case 13:
			if len(one.Pins) > 0 {
				one.Pins[draws.IntN(len(one.Pins))] = api.Pin{At: draws.IntN(4), Time: draws.Int64N(99) - 1}
			}
		}
	}
}

// stands is in how many tours a request's pickup stands.
func stands(tours []api.Tour, request int) int {
	many := 0
	for _, t := range tours {
		if slices.Contains(t.Seq, request) {
			many++
		}
	}
	return many
}

// error is the error that the chapter asks for.
func (a ask) error() api.Errno {
	if len(a.tours) != len(a.x.Cars) || inst.Check(a.x) != api.OK {
		return api.ErrArg
	}
	if a.k < 1 || a.k > 8 || a.steps < 0 || a.steps > 1000 || len(a.draws) > 4096 {
		return api.ErrRange
	}
	for car, t := range a.tours {
		if !insert.Right(a.x, car, t, a.clock) {
			return api.ErrTime
		}
	}
	for request := range a.x.Rides {
		if stands(a.tours, request+1) > 1 {
			return api.ErrTwice
		}
	}
	return api.OK
}

// restOf is the rest of a tour, by the chapter's words.
func restOf(x api.Instance, t api.Tour) []int {
	n := len(x.Rides)
	var rest []int
	for request := 1; request <= n; request++ {
		for at, stop := range t.Seq {
			if at >= len(t.Pins) && (stop == request || stop == n+request) && !slices.Contains(rest, request) {
				rest = append(rest, request)
			}
		}
	}
	return rest
}

// eachOrder goes through all rows of a beginning, stops in whatever order has each pickup ahead of its drop, and the end's depot.
func eachOrder(x api.Instance, begin, stops []int, do func(row []int)) {
	n := len(x.Rides)
	if len(stops) == 0 {
		do(append(slices.Clone(begin), 2*n+1))
		return
	}
	for i, stop := range stops {
		if stop <= n || slices.Contains(begin, stop-n) {
			eachOrder(x, append(slices.Clone(begin), stop), slices.Delete(slices.Clone(stops), i, i+1), do)
		}
	}
}

// cheapestOrder is the tour in the order of its stops that aren't frozen that costs least and is right, of as cheap ones the one whose row comes first, gone through one by one.
func cheapestOrder(x api.Instance, car int, t api.Tour, clock int64) api.Tour {
	var best api.Tour
	most := int64(math.MaxInt64)
	frozen := max(1, len(t.Pins))
	eachOrder(x, t.Seq[:frozen], t.Seq[frozen:len(t.Seq)-1], func(row []int) {
		one := api.Tour{Seq: row, Pins: t.Pins}
		cost := insert.Cost(x, one)
		if cost > most || cost == most && slices.Compare(row, best.Seq) > 0 || !insert.Right(x, car, one, clock) {
			return
		}
		best, most = one, cost
	})
	return best
}

// settled is the tour as it must be settled, and whether it is another one.
func settled(x api.Instance, car int, t api.Tour, clock int64, k int) (api.Tour, bool) {
	rest := restOf(x, t)
	if !insert.Right(x, car, t, clock) || k < 1 || k > 8 || len(rest) == 0 || len(rest) > k {
		return t, false
	}
	best := cheapestOrder(x, car, t, clock)
	if insert.Cost(x, best) < insert.Cost(x, t) {
		return best, true
	}
	return t, false
}

// P26.1: Rest, Settle and Settled of drawn tours, of those that aren't right too, are as the chapter's words, all orders gone through.
func TestSettleOfDrawnTours(t *testing.T) {
	draws := rand.New(rand.NewPCG(1, 2))
	turned, still, frozen, aboard, wrong, alike := 0, 0, 0, 0, 0, 0
	for range 8000 {
		a := drawnAsk(draws, 5, draws.IntN(4) == 0)
		a.k = draws.IntN(11) - 1
		for car, one := range a.tours {
			rest := restOf(a.x, one)
			if got := solve.Rest(a.x, one); !slices.Equal(got, rest) {
				t.Fatalf("%+v: %+v: %v, not %v", a.x, one, got, rest)
			}
			if len(rest) > 4 {
				continue
			}
			want, is := settled(a.x, car, one, a.clock, a.k)
			got, ok := solve.Settle(a.x, car, one, a.clock, a.k)
			if ok != is || !sameTour(got, want) || solve.Settled(a.x, car, one, a.clock, a.k) == is {
				t.Fatalf("%+v: car %d, clock %d, k %d: %+v: %+v, %v, not %+v, %v", a.x, car, a.clock, a.k, one, got, ok, want, is)
			}
			switch {
			case !insert.Right(a.x, car, one, a.clock):
				wrong++
			case is:
				turned++
				if len(one.Pins) > 1 {
					frozen++
				}
				if !slices.Contains(one.Seq[len(one.Pins):], rest[0]) {
					aboard++
				}
			case len(rest) > 1 && len(rest) <= a.k && a.k <= 8:
				still++
				if best := cheapestOrder(a.x, car, one, a.clock); !sameTour(best, one) {
					alike++
				}
			}
		}
	}
	if turned < 800 || still < 400 || frozen < 100 || aboard < 30 || wrong < 500 || alike < 30 {
		t.Errorf("hardly asked: %d turned, %d not, %d behind frozen stops, %d with somebody on board, %d aren't right, %d are as cheap as another one", turned, still, frozen, aboard, wrong, alike)
	}
}

// cheaper tells whether layer 15 has a cheaper order for a right tour with so many in its rest.
func cheaper(x api.Instance, car int, t api.Tour, clock int64, k int) bool {
	rest := restOf(x, t)
	if len(rest) == 0 || len(rest) > k {
		return false
	}
	prefix := t.Seq[:max(1, len(t.Pins))]
	waiting := slices.DeleteFunc(rest, func(request int) bool { return slices.Contains(prefix, request) })
	_, cost, _, e := order.Best(x, car, t.Pins, prefix, waiting, clock)
	return e == api.OK && cost < insert.Cost(x, t)
}

// holds asks all that the chapter says of what is answered.
func (a ask) holds(t *testing.T, got []api.Tour, e api.Errno) {
	t.Helper()
	if want := a.error(); e != want || e != api.OK && len(got) > 0 || e == api.OK && len(got) != len(a.tours) {
		t.Fatalf("%+v: %+v, %d, not %d", a, got, e, want)
	}
	if e != api.OK {
		return
	}
	if search.Better(a.x, a.tours, got) {
		t.Fatalf("%+v: it was better than %+v", a, got)
	}
	for car, one := range got {
		was := a.tours[car]
		if !insert.Right(a.x, car, one, a.clock) || !slices.Equal(one.Pins, was.Pins) || !slices.Equal(one.Seq[:len(one.Pins)], was.Seq[:len(was.Pins)]) {
			t.Fatalf("%+v: tour %d isn't right, or what was frozen is turned: %+v", a, car, got)
		}
		if cheaper(a.x, car, one, a.clock, a.k) || !solve.Settled(a.x, car, one, a.clock, a.k) {
			t.Fatalf("%+v: tour %d isn't settled: %+v", a, car, got)
		}
	}
	for request := 1; request <= len(a.x.Rides); request++ {
		stood, now, listed := stands(a.tours, request), stands(got, request), slices.Contains(a.list, request)
		if now > 1 || stood == 1 && now == 0 || stood == 0 && now == 1 && !listed {
			t.Fatalf("%+v: %d stands in %d tours: %+v", a, request, now, got)
		}
		if now == 0 && listed {
			a.hasNoPlace(t, got, request)
		}
	}
}

// hasNoPlace holds that a request who is left has a place in no tour.
func (a ask) hasNoPlace(t *testing.T, got []api.Tour, request int) {
	t.Helper()
	for car := range got {
		if s, ok := insert.Best(a.x, car, got[car], a.clock, request); ok {
			t.Fatalf("%+v: %+v, but %d has a place in tour %d, %+v", a, got, request, car, s)
		}
	}
}

// P26.1, P26.2: all that the chapter says holds of drawn tours; with steps it's no worse than with none; the same is answered again.
func TestSolveOfDrawnTours(t *testing.T) {
	draws := rand.New(rand.NewPCG(3, 4))
	met := map[api.Errno]int{}
	more, left, frozen := 0, 0, 0
	for range 4000 {
		a := drawnAsk(draws, 5, draws.IntN(3) == 0)
		got, e := a.solve()
		a.holds(t, got, e)
		if then, e := a.solve(); e != a.error() || !sameTours(got, then) {
			t.Fatalf("%+v: %+v, and then %+v", a, got, then)
		}
		met[e]++
		if e != api.OK {
			continue
		}
		none := a
		none.steps = 0
		still, e := none.solve()
		none.holds(t, still, e)
		filled, _ := regret.Fill(a.x, a.tours, a.clock, a.list)
		if search.Better(a.x, filled, still) || search.Better(a.x, still, got) {
			t.Fatalf("%+v: %+v, with no steps %+v, filled %+v", a, got, still, filled)
		}
		if search.Better(a.x, still, filled) {
			more++
		}
		left += len(regret.Left(a.x, got, a.list))
		for i := range got {
			if len(got[i].Pins) > 2 && !slices.Equal(got[i].Seq, a.tours[i].Seq) {
				frozen++
			}
		}
	}
	for _, e := range []api.Errno{api.ErrArg, api.ErrRange, api.ErrTime, api.ErrTwice} {
		if met[e] < 50 {
			t.Errorf("hardly asked: %v", met)
		}
	}
	if met[api.OK] < 2500 || more < 200 || left < 500 || frozen < 50 {
		t.Errorf("hardly asked: %v, %d are better than filled, %d left, %d turned behind frozen stops", met, more, left, frozen)
	}
}

// rounds is how often the tours are to be filled for all to hold, if they are but filled, and then settled, and that again.
func (a ask) rounds() int {
	tours, left := regret.Fill(a.x, a.tours, a.clock, a.list)
	for many := 1; ; many++ {
		for car, one := range tours {
			tours[car], _ = settled(a.x, car, one, a.clock, a.k)
		}
		was := len(left)
		tours, left = regret.Fill(a.x, tours, a.clock, a.list)
		if len(left) == was {
			return many
		}
	}
}

// P26.2: where somebody who is left has a place as soon as a tour is settled, all holds at the end: he is served, and all is settled then.
func TestSolveGoesBackOnDrawnTours(t *testing.T) {
	draws := rand.New(rand.NewPCG(5, 6))
	again, oftener := 0, 0
	for range 2500 {
		n := 3 + draws.IntN(2)
		a := ask{x: lying([]int{2}, make([][2]float64, n)...), k: 8, steps: draws.IntN(3), tours: rows([]int{0, 2*n + 1})}
		for i := range a.x.Stops {
			a.x.Stops[i].Spot = complex(float64(draws.IntN(21)-10), float64(draws.IntN(21)-10))
		}
		for i := range n {
			if i == 0 || i < n-1 && draws.IntN(2) == 0 {
				a.addDrawn(draws, 0, i+1, false)
			}
			a.list = append(a.list, i+1)
		}
		a.x.Cars[0].Max = insert.Cost(a.x, a.tours[0]) + draws.Int64N(3)
		got, e := a.solve()
		a.holds(t, got, e)
		switch rounds := a.rounds(); {
		case rounds > 2:
			oftener++
			fallthrough
		case rounds > 1:
			again++
		}
	}
	if again < 60 || oftener < 2 {
		t.Errorf("hardly asked: %d are to be filled again, %d oftener", again, oftener)
	}
}
