package regret

import (
	"math"
	"math/rand/v2"
	"slices"
	"testing"

	"jitney/api"
	"jitney/insert"
	"jitney/inst"
	"jitney/sched"
	"jitney/seqn"
	"jitney/sweep"
)

// drawn is an instance of a few requests, with windows, and a Matrix as often as none.
func drawn(draws *rand.Rand) api.Instance {
	n := draws.IntN(7)
	x := lying(nil, make([][2]complex128, n)...)
	for range 1 + draws.IntN(3) {
		x.Cars = append(x.Cars, api.Car{Cap: api.Load{Seats: 1 + draws.IntN(3), Wheels: draws.IntN(2)}, Max: 40 + draws.Int64N(200)})
	}
	for i := range x.Stops {
		s := &x.Stops[i]
		s.Spot = complex(float64(draws.IntN(9)-4), float64(draws.IntN(9)-4))
		s.Early = draws.Int64N(60) * draws.Int64N(2)
		s.Late = s.Early + 10 + draws.Int64N(150)
	}
	for i := range n {
		x.Rides[i] = 5 + draws.Int64N(60)
		on := api.Load{Seats: draws.IntN(3), Wheels: draws.IntN(5) / 4}
		x.Stops[1+i].Load, x.Stops[1+n+i].Load = on, api.Load{Seats: -on.Seats, Wheels: -on.Wheels}
		x.Stops[1+i].Service, x.Stops[1+n+i].Service = draws.Int64N(3), draws.Int64N(3)
	}
	x.Stops[0].Early, x.Stops[2*n+1].Late = 0, 400
	if draws.IntN(2) == 0 {
		x = timed(x, 0)
		most := []int64{3, 15, 60}[draws.IntN(3)]
		for _, times := range x.Matrix {
			for i := range times {
				times[i] = draws.Int64N(most)
			}
		}
	}
	return x
}

// drawnTour is a tour into which some were put wherever there was a place, as often as not with pins, now and then one that isn't right.
func drawnTour(draws *rand.Rand, x api.Instance, car int) api.Tour {
	t := tour(seqn.Empty(x))
	for range draws.IntN(4) * draws.IntN(2) {
		request := 1 + draws.IntN(len(x.Rides)+1)
		if places := slices.Collect(insert.All(x, car, t, 0, request)); len(places) > 0 {
			t = insert.Put(x, t, request, places[draws.IntN(len(places))])
		}
	}
	if r, e := sched.Plan(x, car, t.Seq, 0, nil); e == api.OK && draws.IntN(3) == 0 {
		t = tour(t.Seq, r.Times[:draws.IntN(len(r.Times)+1)]...)
	}
	if draws.IntN(12) == 0 {
		t.Seq[draws.IntN(len(t.Seq))] = draws.IntN(len(x.Stops)+2) - 1
	}
	return t
}

// drawnAsk is what Fill may be asked; of the tours some are too many, or missing.
func drawnAsk(draws *rand.Rand) ask {
	a := ask{x: drawn(draws), clock: draws.Int64N(40) * draws.Int64N(2)}
	for car := range max(0, len(a.x.Cars)+draws.IntN(5)/4-draws.IntN(5)/4) {
		a.tours = append(a.tours, drawnTour(draws, a.x, min(car, len(a.x.Cars)-1)))
	}
	for range draws.IntN(12) {
		a.list = append(a.list, draws.IntN(len(a.x.Rides)+3)-1)
	}
	return a
}

// waiting is who is in the list, and stands in no tour, by the chapter's words.
func (a ask) waiting() []int {
	var list []int
	for request := 1; request <= len(a.x.Rides); request++ {
		stands := slices.ContainsFunc(a.tours, func(t api.Tour) bool { return slices.Contains(t.Seq, request) })
		if slices.Contains(a.list, request) && !stands {
			list = append(list, request)
		}
	}
	return list
}

// best is the best place by all that there are.
func (a ask) best(car, request int) (insert.Spot, bool) {
	places := slices.Collect(insert.All(a.x, car, a.tours[car], a.clock, request))
	if len(places) == 0 {
		return insert.Spot{}, false
	}
	return slices.MinFunc(places, func(a, b insert.Spot) int { return int(a.Cost - b.Cost) }), true
}

// put is one step by the chapter's words, into the tours of these cars, and tells whether there was one.
func (a ask) put(cars []int) bool {
	regret, cost, who, where, spot := int64(-1), int64(0), 0, 0, insert.Spot{}
	for _, request := range a.waiting() {
		var costs []int64
		least, at, place := int64(1<<62), 0, insert.Spot{}
		for _, car := range cars {
			s, ok := a.best(car, request)
			if ok && s.Cost < least {
				least, at, place = s.Cost, car, s
			}
			if ok {
				costs = append(costs, s.Cost)
			}
		}
		slices.Sort(costs)
		more := int64(1 << 60)
		if len(costs) > 1 {
			more = costs[1] - costs[0]
		}
		if len(costs) > 0 && (more > regret || more == regret && least < cost) {
			regret, cost, who, where, spot = more, least, request, at, place
		}
	}
	if who != 0 {
		a.tours[where] = insert.Put(a.x, a.tours[where], who, spot)
	}
	return who != 0
}

// allOf is the first cars, or tours, as many.
func allOf(many int) []int {
	var list []int
	for i := range many {
		list = append(list, i)
	}
	return list
}

// later tells whether somebody was put into a tour in which there was no place at first.
func (a ask) later(then []api.Tour) bool {
	for _, request := range a.waiting() {
		for car := range then {
			if _, had := a.best(car, request); !had && slices.Contains(then[car].Seq, request) {
				return true
			}
		}
	}
	return false
}

// P18.1, P18.2: what is filled is what comes of steps by the chapter's words.
func TestFillOfDrawnTours(t *testing.T) {
	draws := rand.New(rand.NewPCG(1, 2))
	puts, many, left, later := 0, 0, 0, 0
	for range 10000 {
		a := drawnAsk(draws)
		want := a
		want.tours = cloned(a.tours)
		steps := 0
		for want.put(allOf(len(a.tours))) {
			steps++
		}
		got, rest := Fill(a.x, a.tours, a.clock, a.list)
		if !slices.EqualFunc(got, want.tours, sameTour) || !slices.Equal(rest, want.waiting()) {
			t.Fatalf("%+v: %v, %v left; not %v, %v left", a, got, rest, want.tours, want.waiting())
		}
		a.stays(t, got, rest)
		puts += steps
		left += len(rest)
		if steps > 2 {
			many++
		}
		if a.later(got) {
			later++
		}
	}
	if puts < 5000 || many < 500 || left < 4000 || later < 20 {
		t.Errorf("hardly asked: %d were put, of %d lists more than two, %d were left, of %d lists one whose place wasn't there at first", puts, many, left, later)
	}
}

// stays asks what must hold of all that is filled.
func (a ask) stays(t *testing.T, tours []api.Tour, left []int) {
	t.Helper()
	then := ask{a.x, tours, a.clock, a.list}
	added := func(stop int) bool {
		request := inst.Request(a.x, stop)
		return slices.Contains(a.waiting(), request) && !slices.Contains(left, request)
	}
	for i, got := range tours {
		was := slices.DeleteFunc(slices.Clone(got.Seq), added)
		old := slices.DeleteFunc(slices.Clone(a.tours[i].Seq), added) // a drop alone may have stood
		if !slices.Equal(was, old) || !slices.Equal(got.Pins, a.tours[i].Pins) {
			t.Fatalf("%+v: %v", a, tours)
		}
		if i < len(a.x.Cars) && insert.Right(a.x, i, a.tours[i], a.clock) && !insert.Right(a.x, i, got, a.clock) {
			t.Fatalf("%+v: tour %d isn't right any more: %v", a, i, got)
		}
	}
	for _, request := range a.waiting() {
		stands := 0
		for car, got := range tours {
			if slices.Contains(got.Seq, request) {
				stands++
			}
			if _, ok := then.best(car, request); ok && slices.Contains(left, request) {
				t.Fatalf("%+v: %v, %d has a place", a, tours, request)
			}
		}
		if slices.Contains(left, request) && stands != 0 || !slices.Contains(left, request) && stands != 1 {
			t.Fatalf("%+v: %v, %v left", a, tours, left)
		}
	}
}

// P18.1, P18.2: what comes from nothing is what comes of steps by the chapter's words, each part in its car's tour alone at first.
func TestSeedOfDrawnInstances(t *testing.T) {
	draws := rand.New(rand.NewPCG(3, 4))
	served, left, other := 0, 0, 0
	for range 4000 {
		a := drawnAsk(draws)
		if draws.IntN(40) == 0 {
			a.x.Cars = nil
		}
		a.tours = Start(a.x, a.clock)
		want := a
		want.tours = cloned(a.tours)
		for car, part := range sweep.Clusters(a.x, a.list) {
			mine := ask{a.x, want.tours, a.clock, part}
			for car < len(mine.tours) && mine.put([]int{car}) {
			}
		}
		for want.put(allOf(len(want.tours))) {
		}
		got, rest := Seed(a.x, a.clock, a.list)
		if len(got) != len(a.x.Cars) || !slices.EqualFunc(got, want.tours, sameTour) || !slices.Equal(rest, want.waiting()) {
			t.Fatalf("%+v: %v, %v left; not %v, %v left", a, got, rest, want.tours, want.waiting())
		}
		a.stays(t, got, rest)
		served += len(a.waiting()) - len(rest)
		left += len(rest)
		if filled, _ := Fill(a.x, a.tours, a.clock, a.list); !slices.EqualFunc(got, filled, sameTour) {
			other++
		}
	}
	if served < 3000 || left < 300 || other < 300 {
		t.Errorf("hardly asked: %d were served, %d left, %d differ from what is filled", served, left, other)
	}
}

// P18.1: all tours' costs are their sum, and who is left those who wait.
func TestCostAndLeftOfDrawnTours(t *testing.T) {
	draws := rand.New(rand.NewPCG(5, 6))
	for range 3000 {
		a := drawnAsk(draws)
		var want int64
		for _, one := range a.tours {
			for i := range len(one.Seq) - 1 {
				want += inst.Travel(a.x, one.Seq[i], one.Seq[i+1])
			}
		}
		if got := Cost(a.x, a.tours); got != want {
			t.Fatalf("%+v: %d, not %d", a, got, want)
		}
		if got := Left(a.x, a.tours, a.list); !slices.Equal(got, a.waiting()) {
			t.Fatalf("%+v: %v, not %v", a, got, a.waiting())
		}
	}
}

// cloned is tours in memory of their own.
func cloned(tours []api.Tour) []api.Tour {
	var list []api.Tour
	for _, one := range tours {
		list = append(list, api.Tour{Seq: slices.Clone(one.Seq), Pins: slices.Clone(one.Pins)})
	}
	return list
}

// copiedInstance is an instance in memory of its own.
func copiedInstance(x api.Instance) api.Instance {
	x.Cars, x.Stops, x.Rides, x.Matrix = slices.Clone(x.Cars), slices.Clone(x.Stops), slices.Clone(x.Rides), slices.Clone(x.Matrix)
	for i := range x.Matrix {
		x.Matrix[i] = slices.Clone(x.Matrix[i])
	}
	return x
}

// What is handed in stays as it is, and what is answered is new memory, spare room too.
func TestToursShareNothing(t *testing.T) {
	draws := rand.New(rand.NewPCG(7, 8))
	for range 1000 {
		a := drawnAsk(draws)
		for i, one := range a.tours { // with something behind each list's length
			a.tours[i] = api.Tour{Seq: append(one.Seq, 70, 71)[:len(one.Seq)], Pins: append(one.Pins, api.Pin{At: 72})[:len(one.Pins)]}
		}
		a.list = append(a.list, 3, 2)[:len(a.list)]
		whole := ask{copiedInstance(a.x), cloned(spread(a.tours)), 0, slices.Clone(a.list[:len(a.list)+2])}
		filled, left := Fill(a.x, a.tours, a.clock, a.list)
		seeded, rest := Seed(a.x, a.clock, a.list)
		tours := slices.Concat(filled, seeded, Start(a.x, a.clock))
		lists := [][]int{left, rest, Left(a.x, a.tours, a.list)}
		Cost(a.x, a.tours)
		for _, one := range tours {
			lists = append(lists, one.Seq)
		}
		for i, list := range lists {
			list = list[:cap(list)]
			for j := range list {
				list[j] = 100 + i
			}
		}
		for i, one := range tours {
			pins := one.Pins[:cap(one.Pins)]
			for j := range pins {
				pins[j].At = 100 + i
			}
		}
		clear(filled[:cap(filled)])
		clear(seeded[:cap(seeded)])
		for i, list := range lists {
			if slices.ContainsFunc(list[:cap(list)], func(n int) bool { return n != 100+i }) {
				t.Fatalf("list %d is shared: %v", i, list)
			}
		}
		for i, one := range tours {
			if slices.ContainsFunc(one.Pins[:cap(one.Pins)], func(p api.Pin) bool { return p.At != 100+i }) {
				t.Fatalf("pins %d are shared: %v", i, one.Pins)
			}
		}
		if !inst.Same(a.x, whole.x) || !slices.EqualFunc(spread(a.tours), whole.tours, sameTour) || !slices.Equal(a.list[:len(a.list)+2], whole.list) {
			t.Fatalf("%+v: it is changed, from %+v", a, whole)
		}
	}
}

// spread is tours with what lies behind their lists' lengths.
func spread(tours []api.Tour) []api.Tour {
	var all []api.Tour
	for _, one := range tours {
		all = append(all, api.Tour{Seq: one.Seq[:len(one.Seq)+2], Pins: one.Pins[:len(one.Pins)+1]})
	}
	return all
}

// P2: the same is answered again, whatever order the list has.
func TestTheListsOrderDoesntMatter(t *testing.T) {
	draws := rand.New(rand.NewPCG(9, 10))
	for range 500 {
		a := drawnAsk(draws)
		filled, left := Fill(a.x, a.tours, a.clock, a.list)
		seeded, rest := Seed(a.x, a.clock, a.list)
		draws.Shuffle(len(a.list), func(i, j int) { a.list[i], a.list[j] = a.list[j], a.list[i] })
		filledThen, leftThen := Fill(a.x, a.tours, a.clock, a.list)
		seededThen, restThen := Seed(a.x, a.clock, a.list)
		if !slices.EqualFunc(filled, filledThen, sameTour) || !slices.EqualFunc(seeded, seededThen, sameTour) || !slices.Equal(left, leftThen) || !slices.Equal(rest, restThen) {
			t.Fatalf("%+v: %v, %v and then %v, %v", a, filled, seeded, filledThen, seededThen)
		}
	}
}

// P18.2: a day of many requests, of whom not all can be served.
func TestFillOfManyRequests(t *testing.T) {
	draws := rand.New(rand.NewPCG(11, 12))
	const n = 120
	x := lying(cars(2, 2, 4, 4, 4, 1), make([][2]complex128, n)...)
	for i := range x.Stops {
		x.Stops[i].Spot = complex(float64(draws.IntN(41)-20), float64(draws.IntN(41)-20))
	}
	for i := range n {
		x.Rides[i] = 60
		early := draws.Int64N(800)
		x.Stops[1+i].Early, x.Stops[1+i].Late, x.Stops[1+i].Service = early, early+20, 3
	}
	a := ask{x, Start(x, 0), 0, upTo(n)}
	filled, left := Fill(x, a.tours, 0, a.list)
	seeded, rest := Seed(x, 0, a.list)
	a.stays(t, filled, left)
	a.stays(t, seeded, rest)
	if len(left) == 0 || len(left) > n/2 || len(rest) == 0 || len(rest) > n/2 {
		t.Errorf("%d and %d left", len(left), len(rest))
	}
}

// P1: of what isn't an instance, and of whatever tours, nothing is put, and nothing panics.
func TestFillOfAnything(t *testing.T) {
	draws := rand.New(rand.NewPCG(13, 14))
	number := func() int {
		return []int{-1, 0, 1, 2, 3, 4, 5, 9, math.MinInt, math.MaxInt}[draws.IntN(10)]
	}
	numbers := func() []int {
		list := make([]int, draws.IntN(6))
		for i := range list {
			list[i] = number()
		}
		return list
	}
	for range 20000 {
		a := drawnAsk(draws)
		for range 1 + draws.IntN(3) {
			switch draws.IntN(6) {
			case 0:
				a.x.Stops = a.x.Stops[:draws.IntN(len(a.x.Stops)+1)]
			case 1:
				a.x.Cars = a.x.Cars[:draws.IntN(len(a.x.Cars)+1)]
			case 2:
				a.x.Rides = append(a.x.Rides, int64(number()))
			case 3:
				a.x.Matrix = append(a.x.Matrix, []int64{int64(number())})
			case 4:
				a.tours = append(a.tours, api.Tour{Seq: numbers(), Pins: make([]api.Pin, draws.IntN(3))})
			case 5:
				a.clock = int64(number())
			}
		}
		a.list = append(a.list, numbers()...)
		filled, left := Fill(a.x, a.tours, a.clock, a.list)
		a.stays(t, filled, left)
		seeded, rest := Seed(a.x, a.clock, a.list)
		from := ask{a.x, Start(a.x, a.clock), a.clock, a.list}
		from.stays(t, seeded, rest)
		if inst.Check(a.x) != api.OK && (!slices.EqualFunc(filled, a.tours, sameTour) || !slices.EqualFunc(seeded, from.tours, sameTour)) {
			t.Fatalf("%+v: %v, %v", a, filled, seeded)
		}
	}
}
