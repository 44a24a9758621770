package solve_test

import (
	"math"
	"math/rand/v2"
	"slices"
	"testing"

	"jitney/api"
	"jitney/book"
	"jitney/insert"
	"jitney/inst"
	"jitney/regret"
	"jitney/search"
	"jitney/solve"
)

// drawnStep is something that befalls a book, as it may be: somebody books or cancels, or the clock goes on.
func drawnStep(draws *rand.Rand, b *book.Book) {
	request := 1 + draws.IntN(len(b.Instance().Rides)+1)
	switch draws.IntN(6) {
	case 0, 1, 2:
		b.Add(request)
	case 3:
		b.Cancel(request)
	default:
		b.Tick(b.Clock() + draws.Int64N(9)*draws.Int64N(3))
	}
}

// askOf is what Solve is asked of a book.
func askOf(draws *rand.Rand, b *book.Book) ask {
	a := ask{x: b.Instance(), tours: b.Tours(), clock: b.Clock(), list: b.List(), k: 1 + draws.IntN(8), steps: draws.IntN(6)}
	for range draws.IntN(4) {
		a.draws = append(a.draws, draws.Int()-draws.Int())
	}
	return a
}

// P26.3, P4: on drawn days a book can be solved at whatever time: its tours are what Solve makes of them then, the plan passes, and what is frozen stays.
func TestDrawnDays(t *testing.T) {
	draws := rand.New(rand.NewPCG(7, 8))
	frozen, left, turned := 0, 0, 0
	for range 300 {
		b := opened(t, drawnInstance(draws, 6))
		for range 25 {
			for range draws.IntN(3) {
				drawnStep(draws, b)
			}
			a := askOf(draws, b)
			want, e := a.solve()
			must(t, "solve", e, api.OK)
			must(t, "commit", solve.Commit(b, a.k, a.steps, a.draws), api.OK)
			got := b.Tours()
			if !sameTours(got, want) || b.Clock() != a.clock || !slices.Equal(b.List(), a.list) {
				t.Fatalf("%+v: %+v, not %+v", a, got, want)
			}
			a.holds(t, got, api.OK)
			passes(t, b)
			p := b.Plan()
			for car, one := range got {
				for at, pin := range one.Pins {
					if p.Times[car][at] != pin.Time {
						t.Fatalf("%+v: frozen at %+v, but planned at %v", a, one, p.Times[car])
					}
				}
				frozen += len(one.Pins)
				if !slices.Equal(one.Seq, a.tours[car].Seq) {
					turned++
				}
			}
			left += len(p.Left)
		}
	}
	if frozen < 1000 || left < 400 || turned < 300 {
		t.Errorf("hardly asked: %d frozen, %d left, %d tours turned", frozen, left, turned)
	}
}

// busy is many requests, with so many cars.
func busy(draws *rand.Rand, n, cars int) api.Instance {
	x := lying(slices.Repeat([]int{2}, cars), make([][2]float64, n)...)
	for i := range x.Stops {
		x.Stops[i].Spot = complex(float64(draws.IntN(41)-20), float64(draws.IntN(41)-20))
	}
	for i := range n {
		x.Rides[i] = 60
		early := draws.Int64N(500)
		x.Stops[1+i].Early, x.Stops[1+i].Late, x.Stops[1+i].Service = early, early+40, 3
	}
	return x
}

// upTo is the numbers from 1 to n.
func upTo(n int) []int {
	var list []int
	for i := range n {
		list = append(list, i+1)
	}
	return list
}

// P26.2, P26.3: of days of many requests the tours are no worse than those that are filled; as the day goes on, with more who book, it can be solved again and again.
func TestBusyDays(t *testing.T) {
	draws := rand.New(rand.NewPCG(9, 10))
	for range 3 {
		x := busy(draws, 40, 6)
		a := ask{x: x, tours: regret.Start(x, 0), list: upTo(40), k: 8, steps: 30, draws: []int{3, 14, 15}}
		got, e := a.solve()
		a.holds(t, got, e)
		if filled, _ := regret.Fill(x, a.tours, 0, a.list); search.Better(x, filled, got) {
			t.Errorf("%+v is worse than %+v", got, filled)
		}
		b := opened(t, x, upTo(20)...)
		for clock := range int64(10) {
			a := askOf(draws, b)
			must(t, "commit", solve.Commit(b, a.k, a.steps, a.draws), api.OK)
			a.holds(t, b.Tours(), api.OK)
			passes(t, b)
			must(t, "tick", b.Tick(50*clock), api.OK)
			must(t, "add", b.Add(21+int(clock)), api.OK)
		}
	}
}

// P26.2: what comes of no steps isn't better than what comes of some, though what they lead to, before it is settled, may be.
func TestStepsAreNeverWorse(t *testing.T) {
	draws := rand.New(rand.NewPCG(17, 18))
	for range 60 {
		x := busy(draws, 7, 2)
		for i := range x.Stops {
			x.Stops[i].Early, x.Stops[i].Late = x.Stops[i].Early/3, 1000
		}
		a := ask{x: x, tours: regret.Start(x, 0), list: upTo(7), k: 8, draws: []int{1, 2, 3}}
		none, e := a.solve()
		a.holds(t, none, e)
		a.steps = 10
		some, e := a.solve()
		a.holds(t, some, e)
		if search.Better(x, none, some) {
			t.Fatalf("%+v: %+v, with no steps %+v", a, some, none)
		}
	}
}

// P26.2: who all stand in one small tour stand there in the order that costs least of all that there are.
func TestOneCarGoesTheCheapestWay(t *testing.T) {
	draws := rand.New(rand.NewPCG(11, 12))
	turned := 0
	for range 60 {
		x := lying([]int{2}, make([][2]float64, 4)...)
		for i := range x.Stops {
			x.Stops[i].Spot = complex(float64(draws.IntN(41)-20), float64(draws.IntN(41)-20))
		}
		a := ask{x: x, tours: regret.Start(x, 0), list: upTo(4), k: 4}
		filled, _ := regret.Fill(x, a.tours, 0, a.list)
		got, e := a.solve()
		if best := cheapestOrder(x, 0, filled[0], 0); e != api.OK || insert.Cost(x, got[0]) != insert.Cost(x, best) {
			t.Fatalf("%+v: %+v, %d, not %+v", x, got, e, best)
		}
		if insert.Cost(x, got[0]) < insert.Cost(x, filled[0]) {
			turned++
		}
	}
	if turned < 10 {
		t.Errorf("hardly asked: %d turned", turned)
	}
}

// spoilt writes over a list, and over the room behind it, and then holds that nobody else has done so.
func spoilt[T comparable](t *testing.T, lists [][]T, by func(i int) T) {
	t.Helper()
	for i, list := range lists {
		list = list[:cap(list)]
		for j := range list {
			list[j] = by(i)
		}
	}
	for i, list := range lists {
		if slices.ContainsFunc(list[:cap(list)], func(one T) bool { return one != by(i) }) {
			t.Fatalf("list %d is shared: %v", i, list)
		}
	}
}

// writeOver writes over tours, and over the room behind their lists, of which none may share any.
func writeOver(t *testing.T, tours []api.Tour) {
	t.Helper()
	var seqs [][]int
	var pins [][]api.Pin
	for _, one := range tours {
		seqs, pins = append(seqs, one.Seq), append(pins, one.Pins)
	}
	spoilt(t, seqs, func(i int) int { return -100 - i })
	spoilt(t, pins, func(i int) api.Pin { return api.Pin{At: -100 - i} })
	clear(tours[:cap(tours)])
}

// roomy is an ask in which something lies behind each list.
func (a ask) roomy() ask {
	a.tours = append([]api.Tour{}, a.tours...)
	for i, one := range a.tours {
		a.tours[i] = api.Tour{Seq: append(slices.Clone(one.Seq), 70, 71)[:len(one.Seq)], Pins: append(slices.Clone(one.Pins), api.Pin{At: 72})[:len(one.Pins)]}
	}
	a.tours = append(a.tours, tour([]int{73}))[:len(a.tours)]
	a.list, a.draws = append(slices.Clone(a.list), 3, 2)[:len(a.list)], append(slices.Clone(a.draws), 7)[:len(a.draws)]
	return a
}

// same tells whether two roomy asks are the same, with what lies behind their lists.
func (a ask) same(b ask) bool {
	behind := func(a, b api.Tour) bool {
		return slices.Equal(a.Seq[:len(a.Seq)+2], b.Seq[:len(b.Seq)+2]) && slices.Equal(a.Pins[:len(a.Pins)+1], b.Pins[:len(b.Pins)+1])
	}
	return slices.EqualFunc(a.tours, b.tours, behind) && a.tours[:len(a.tours)+1][len(a.tours)].Seq[0] == 73 &&
		slices.Equal(a.list[:len(a.list)+2], b.list[:len(b.list)+2]) && slices.Equal(a.draws[:len(a.draws)+1], b.draws[:len(b.draws)+1]) && inst.Same(a.x, b.x)
}

// copied is an instance in memory of its own.
func copied(x api.Instance) api.Instance {
	x.Cars, x.Stops, x.Rides, x.Matrix = slices.Clone(x.Cars), slices.Clone(x.Stops), slices.Clone(x.Rides), slices.Clone(x.Matrix)
	for i := range x.Matrix {
		x.Matrix[i] = slices.Clone(x.Matrix[i])
	}
	return x
}

// What is handed in stays as it is, what lies behind it too, and what is answered is new memory, spare room too.
func TestSolveSharesNothing(t *testing.T) {
	draws := rand.New(rand.NewPCG(13, 14))
	for range 1500 {
		a := drawnAsk(draws, 5, draws.IntN(3) == 0).roomy()
		kept := a.roomy()
		kept.x = copied(a.x)
		for car, one := range a.tours {
			if len(restOf(a.x, one)) > 5 {
				continue
			}
			rest := solve.Rest(a.x, one)
			spoilt(t, [][]int{rest}, func(int) int { return -9 })
			solve.Settled(a.x, car, one, a.clock, a.k)
			settled, _ := solve.Settle(a.x, car, one, a.clock, a.k)
			writeOver(t, []api.Tour{settled})
		}
		got, _ := a.solve()
		writeOver(t, got)
		if !a.same(kept) {
			t.Fatalf("%+v: it is changed, from %+v", a, kept)
		}
	}
}

// What a book is handed in isn't changed, and not kept.
func TestCommitSharesNothing(t *testing.T) {
	b := opened(t, oneWay(2), 1, 2)
	list := []int{5, 4, 3, 99}
	must(t, "commit", solve.Commit(b, 2, 3, list[:3]), api.OK)
	if !slices.Equal(list, []int{5, 4, 3, 99}) {
		t.Errorf("%v", list)
	}
	planned(t, "handed in", b, nil, tour([]int{0, 1, 2, 3, 4, 5}))
}

// P1: of whatever is handed in nothing panics, and what isn't right is settled, and told.
func TestAnything(t *testing.T) {
	draws := rand.New(rand.NewPCG(15, 16))
	number := func() int {
		return []int{-1, 0, 1, 2, 3, 4, 5, 8, 9, math.MinInt, math.MaxInt}[draws.IntN(11)]
	}
	numbers := func() []int {
		list := make([]int, draws.IntN(6))
		for i := range list {
			list[i] = number()
		}
		return list
	}
	for range 8000 {
		a := drawnAsk(draws, 4, true)
		for range draws.IntN(3) {
			switch draws.IntN(3) {
			case 0:
				a.tours = append(a.tours, api.Tour{Seq: numbers(), Pins: make([]api.Pin, draws.IntN(3))})
			case 1:
				a.replaceRow(draws, numbers())
			case 2:
				a.k, a.steps, a.clock = number(), min(number(), 9), int64(number())
			}
		}
		a.list, a.draws = append(a.list, numbers()...), numbers()
		got, e := a.solve()
		a.holds(t, got, e)
		one := api.Tour{Seq: numbers(), Pins: make([]api.Pin, draws.IntN(3))}
		car, k, clock := number(), number(), int64(number())
		if got, want := solve.Rest(a.x, one), restOf(a.x, one); !slices.Equal(got, want) {
			t.Fatalf("%+v, %+v: %v, not %v", a.x, one, got, want)
		}
		want, is := settled(a.x, car, one, clock, k)
		if got, ok := solve.Settle(a.x, car, one, clock, k); ok != is || !sameTour(got, want) || solve.Settled(a.x, car, one, clock, k) == is {
			t.Fatalf("%+v, %d, %+v, %d, %d: %+v, %v", a.x, car, one, clock, k, got, ok)
		}
	}
}

// replaceRow puts a row in the place of one of the tours', if there are any.
func (a *ask) replaceRow(draws *rand.Rand, row []int) {
	if len(a.tours) > 0 {
		a.tours[draws.IntN(len(a.tours))].Seq = row
	}
}

// P1: of as many cars and stops as may be all ends soon.
func TestTheMost(t *testing.T) {
	const n = api.MaxStops/2 - 1
	x := lying(slices.Repeat([]int{1}, api.MaxCars), make([][2]float64, n)...)
	row := []int{0}
	for request := 1; request <= n; request++ {
		row = append(row, request, n+request)
	}
	row = append(row, 2*n+1)
	a := ask{x: x, tours: regret.Start(x, 0), list: upTo(n), k: 8, steps: 1}
	a.tours[63] = tour(row, make([]int64, 2*n-4)...)
	got, e := a.solve()
	a.holds(t, got, e)
	if e != api.OK || len(solve.Rest(x, a.tours[63])) != 3 || len(solve.Rest(x, tour(row))) != n {
		t.Errorf("%d", e)
	}
}
