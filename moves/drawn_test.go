package moves

import (
	"math"
	"math/rand/v2"
	"slices"
	"testing"

	"jitney/api"
	"jitney/insert"
	"jitney/inst"
	"jitney/regret"
	"jitney/sched"
	"jitney/seqn"
)

// ask is what the moves are asked of.
type ask struct {
	x     api.Instance
	tours []api.Tour
	clock int64
}

// drawnInstance is an instance of a few requests, with windows, and a Matrix as often as none.
func drawnInstance(draws *rand.Rand) api.Instance {
	n := 1 + draws.IntN(5)
	x := lying(nil, make([][2]complex128, n)...)
	for range 1 + draws.IntN(3) {
		x.Cars = append(x.Cars, api.Car{Cap: api.Load{Seats: 1 + draws.IntN(3)}, Max: 60 + draws.Int64N(200)})
	}
	for i := range x.Stops {
		s := &x.Stops[i]
		s.Spot = complex(float64(draws.IntN(9)-4), float64(draws.IntN(9)-4))
		s.Early = draws.Int64N(60) * draws.Int64N(2)
		s.Late = s.Early + 20 + draws.Int64N(200)
	}
	for i := range n {
		x.Rides[i] = 8 + draws.Int64N(80)
		on := draws.IntN(3)
		x.Stops[1+i].Load.Seats, x.Stops[1+n+i].Load.Seats = on, -on
		x.Stops[1+i].Service, x.Stops[1+n+i].Service = draws.Int64N(3), draws.Int64N(3)
	}
	x.Stops[0].Early, x.Stops[2*n+1].Late = 0, 500
	if draws.IntN(2) == 0 {
		x = timed(x, 0)
		most := []int64{3, 15, 60}[draws.IntN(3)]
		for _, times := range x.Matrix {
			for i := range times {
				times[i] = draws.Int64N(most)
			}
		}
	}
	return x
}

// drawn is right tours, into which all were put wherever there was a place, as often as not with pins; and, if odd ones may be, now and then a tour too many, a request in two, or a row that isn't right.
func drawn(draws *rand.Rand, odd bool) ask {
	a := ask{x: drawnInstance(draws)}
	a.tours = regret.Start(a.x, 0)
	for _, i := range draws.Perm(len(a.x.Rides)) {
		car := draws.IntN(len(a.tours))
		a.addDrawn(draws, car, i+1)
		if odd && draws.IntN(4) == 0 {
			a.addDrawn(draws, draws.IntN(len(a.tours)), i+1)
		}
	}
	for car, t := range a.tours {
		r, e := sched.Plan(a.x, car, t.Seq, 0, nil)
		if e == api.OK && draws.IntN(3) == 0 {
			a.tours[car] = tour(t.Seq, r.Times[:draws.IntN(len(r.Times)+1)]...)
		}
		if odd && draws.IntN(8) == 0 {
			t.Seq[draws.IntN(len(t.Seq))] = draws.IntN(len(a.x.Stops)+2) - 1
		}
	}
	if odd && draws.IntN(8) == 0 {
		a.tours = append(a.tours, tour(slices.Clone(a.tours[0].Seq)))
	}
	return a
}

func (a ask) addDrawn(draws *rand.Rand, car, request int) {
	if places := slices.Collect(insert.All(a.x, car, a.tours[car], 0, request)); len(places) > 0 {
		a.tours[car] = insert.Put(a.x, a.tours[car], request, places[draws.IntN(len(places))])
	}
}

// stands is the tour in which a request is free, and whether it is, by the chapter's words.
func (a ask) stands(request int) (int, bool) {
	n := len(a.x.Rides)
	for i, t := range a.tours {
		if place := slices.Index(t.Seq, request); place >= 0 {
			return i, place >= len(t.Pins) && slices.Contains(t.Seq, n+request)
		}
	}
	return 0, false
}

// all is all moves by the chapter's words.
func (a ask) all() []Move {
	var alone, pairs []Move
	for request := 1; request <= len(a.x.Rides); request++ {
		from, free := a.stands(request)
		if !free {
			continue
		}
		for to := range a.tours {
			alone = append(alone, Move{request, from, to, 0})
		}
		for other := request + 1; other <= len(a.x.Rides); other++ {
			if to, too := a.stands(other); too && to != from {
				pairs = append(pairs, Move{request, from, to, other})
			}
		}
	}
	return append(alone, pairs...)
}

// done is a move by the chapter's words.
func (a ask) done(m Move) ([]api.Tour, bool) {
	then := copied(a.tours)
	is := func(tour int) bool { return tour >= 0 && tour < len(then) }
	if !is(m.From) || !is(m.To) || m.Other != 0 && m.From == m.To {
		return a.tours, false
	}
	goes := [][3]int{{m.Request, m.From, m.To}, {m.Other, m.To, m.From}}
	if m.Other == 0 {
		goes = goes[:1]
	}
	for _, g := range goes {
		t, ok := insert.Take(a.x, then[g[1]], g[0])
		if !ok {
			return a.tours, false
		}
		then[g[1]] = t
	}
	for _, g := range goes {
		if !insert.Right(a.x, g[1], then[g[1]], a.clock) {
			return a.tours, false
		}
	}
	for _, g := range goes {
		s, ok := insert.Best(a.x, g[2], then[g[2]], a.clock, g[0])
		if !ok {
			return a.tours, false
		}
		then[g[2]] = insert.Put(a.x, then[g[2]], g[0], s)
	}
	return then, true
}

func (a ask) right(tours []api.Tour) bool {
	for car, t := range tours {
		if !insert.Right(a.x, car, t, a.clock) {
			return false
		}
	}
	return true
}

// cost is what tours cost, leg by leg.
func (a ask) cost(tours []api.Tour) int64 {
	var sum int64
	for _, t := range tours {
		for i := range len(t.Seq) - 1 {
			sum += inst.Travel(a.x, t.Seq[i], t.Seq[i+1])
		}
	}
	return sum
}

// try does a move, holds what comes of it against the chapter's words, and tells whether it can be done.
func (a ask) try(t *testing.T, m Move) bool {
	t.Helper()
	want, done := a.done(m)
	got, ok := Do(a.x, a.tours, a.clock, m)
	if ok != done || !sameTours(got, want) {
		t.Fatalf("%+v, %v: %v, %v; not %v, %v", a, m, got, ok, want, done)
	}
	gain, ok := Gain(a.x, a.tours, a.clock, m)
	if ok != done || !done && gain != 0 || gain != a.cost(a.tours)-a.cost(want) {
		t.Fatalf("%+v, %v: %d, %v are gained, not %d", a, m, gain, ok, a.cost(a.tours)-a.cost(want))
	}
	return done
}

// P19.1: the moves of drawn tours, of those that aren't right too, are those of the chapter's words, and so is what comes of them, and of others.
func TestMovesOfDrawnTours(t *testing.T) {
	draws := rand.New(rand.NewPCG(1, 2))
	told, pairs, alone, changed := 0, 0, 0, 0
	for range 4000 {
		a := drawn(draws, true)
		a.clock = draws.Int64N(30) * draws.Int64N(2)
		want := a.all()
		if got := slices.Collect(All(a.x, a.tours)); !slices.Equal(got, want) {
			t.Fatalf("%+v: %v, not %v", a, got, want)
		}
		told += len(want)
		for _, m := range want {
			done := a.try(t, m)
			if m.Other != 0 {
				pairs++
			}
			if done && m.Other == 0 {
				alone++
			} else if done {
				changed++
			}
		}
		for range 3 {
			n, many := len(a.x.Rides)+3, len(a.tours)+2
			a.try(t, Move{draws.IntN(n) - 1, draws.IntN(many) - 1, draws.IntN(many) - 1, draws.IntN(n) - 1})
		}
	}
	if told-pairs < 10000 || pairs < 2000 || alone < 5000 || changed < 1000 {
		t.Errorf("hardly asked: %d moves, %d pairs, of which %d and %d can be done", told, pairs, alone, changed)
	}
}

// served is the requests of all tours, rising.
func (a ask) served(tours []api.Tour) []int {
	var list []int
	for _, t := range tours {
		list = append(list, seqn.Served(a.x, t.Seq)...)
	}
	slices.Sort(list)
	return list
}

// P19.2: by move after move all requests stay served, all pins and what is frozen stay, and right tours right.
func TestMovesLeaveAllServed(t *testing.T) {
	draws := rand.New(rand.NewPCG(3, 4))
	moved := 0
	for range 400 {
		a := drawn(draws, false)
		if !a.right(a.tours) {
			t.Fatalf("%+v: not right", a)
		}
		first := a.tours
		for range 10 {
			for m := range All(a.x, a.tours) {
				then, ok := Do(a.x, a.tours, a.clock, m)
				if !ok || draws.IntN(3) > 0 {
					continue
				}
				moved++
				if !a.right(then) || !slices.Equal(a.served(then), a.served(first)) {
					t.Fatalf("%+v, %v: %v", a, m, then)
				}
				for i, one := range then {
					if pins := len(one.Pins); !slices.Equal(one.Pins, first[i].Pins) || !slices.Equal(one.Seq[:pins], first[i].Seq[:pins]) {
						t.Fatalf("%+v, %v: %v", a, m, then)
					}
				}
				a.tours = then
				break
			}
		}
	}
	if moved < 1000 {
		t.Errorf("hardly asked: %d moves", moved)
	}
}

// P19.1: a free request of a tour that is right without it can go to where it is, so that to its own tour it never costs more.
func TestWhoGoesToItsOwnTour(t *testing.T) {
	draws := rand.New(rand.NewPCG(5, 6))
	went := 0
	for range 1000 {
		a := drawn(draws, false)
		for m := range All(a.x, a.tours) {
			if m.From != m.To {
				continue
			}
			without, _ := insert.Take(a.x, a.tours[m.From], m.Request)
			gain, ok := Gain(a.x, a.tours, a.clock, m)
			if ok != insert.Right(a.x, m.From, without, a.clock) || gain < 0 {
				t.Fatalf("%+v, %v: %d, %v", a, m, gain, ok)
			}
			if ok {
				went++
			}
		}
	}
	if went < 1000 {
		t.Errorf("hardly asked: %d", went)
	}
}

// What is handed in stays as it is, and may be written over behind the call.
func TestMovesKeepNothing(t *testing.T) {
	draws := rand.New(rand.NewPCG(7, 8))
	for range 1000 {
		a := drawn(draws, true)
		x, kept := copiedInstance(a.x), copied(a.tours)
		want := a.all()
		moves := All(a.x, a.tours)
		for m := range moves {
			Do(a.x, a.tours, a.clock, m)
			Gain(a.x, a.tours, a.clock, m)
		}
		if !inst.Same(x, a.x) || !sameTours(kept, a.tours) {
			t.Fatalf("%+v: it is changed, from %v", a, kept)
		}
		clear(a.x.Cars)
		clear(a.x.Stops)
		clear(a.x.Rides)
		for _, times := range a.x.Matrix {
			clear(times)
		}
		for _, one := range a.tours {
			clear(one.Seq)
			clear(one.Pins)
		}
		clear(a.tours)
		if got := slices.Collect(moves); !slices.Equal(got, want) {
			t.Fatalf("%+v, %v: %v, not %v", x, kept, got, want)
		}
	}
}

// copiedInstance is an instance in memory of its own.
func copiedInstance(x api.Instance) api.Instance {
	x.Cars, x.Stops, x.Rides, x.Matrix = slices.Clone(x.Cars), slices.Clone(x.Stops), slices.Clone(x.Rides), slices.Clone(x.Matrix)
	for i := range x.Matrix {
		x.Matrix[i] = slices.Clone(x.Matrix[i])
	}
	return x
}

// P1: of what isn't an instance, and of whatever tours and moves, nothing panics, and all is by the chapter's words.
func TestMovesOfAnything(t *testing.T) {
	draws := rand.New(rand.NewPCG(9, 10))
	number := func() int {
		return []int{-1, 0, 1, 2, 3, 4, 5, 9, math.MinInt, math.MaxInt}[draws.IntN(10)]
	}
	for range 10000 {
		a := drawn(draws, true)
		switch draws.IntN(6) {
		case 0:
			a.x.Stops = a.x.Stops[:draws.IntN(len(a.x.Stops)+1)]
		case 1:
			a.x.Cars = a.x.Cars[:draws.IntN(len(a.x.Cars)+1)]
		case 2:
			a.x.Rides = append(a.x.Rides, int64(number()))
		case 3:
			a.x.Matrix = append(a.x.Matrix, []int64{1})
		case 4:
			a.tours = append(a.tours, api.Tour{Seq: []int{number(), number(), number(), number()}, Pins: make([]api.Pin, draws.IntN(3))})
		case 5:
			a.clock = int64(number())
		}
		want := a.all()
		if got := slices.Collect(All(a.x, a.tours)); !slices.Equal(got, want) {
			t.Fatalf("%+v: %v, not %v", a, got, want)
		}
		if len(want) > 0 {
			a.try(t, want[draws.IntN(len(want))])
		}
		a.try(t, Move{number(), number(), number(), number()})
	}
}
