package plan

import (
	"math/rand/v2"
	"slices"
	"testing"

	"jitney/api"
	"jitney/insert"
	"jitney/inst"
	"jitney/regret"
	"jitney/rule"
	"jitney/sched"
	"jitney/seqn"
)

// drawnInstance is an instance of a few requests, with windows, and a Matrix as often as none.
func drawnInstance(draws *rand.Rand) api.Instance {
	n, wide := draws.IntN(7), 1+draws.Int64N(2)*300
	x := lying(nil, make([][2]float64, n)...)
	for range 1 + draws.IntN(3) {
		x.Cars = append(x.Cars, api.Car{Cap: api.Load{Seats: 1 + draws.IntN(3), Wheels: draws.IntN(2)}, Max: 60 + draws.Int64N(300)})
	}
	for i := range x.Stops {
		s := &x.Stops[i]
		s.Spot = complex(float64(draws.IntN(9)-4), float64(draws.IntN(9)-4))
		s.Early = draws.Int64N(60) * draws.Int64N(2)
		s.Late = s.Early + 5 + draws.Int64N(40+wide)
	}
	for i := range n {
		x.Rides[i] = 8 + draws.Int64N(80)
		on := api.Load{Seats: draws.IntN(3), Wheels: draws.IntN(5) / 4}
		x.Stops[1+i].Load, x.Stops[1+n+i].Load = on, api.Load{Seats: -on.Seats, Wheels: -on.Wheels}
		x.Stops[1+i].Service, x.Stops[1+n+i].Service = draws.Int64N(3), draws.Int64N(3)
	}
	x.Stops[0].Early, x.Stops[2*n+1].Late = 0, 500
	if draws.IntN(2) == 0 {
		x = timed(x, 0)
		for _, times := range x.Matrix {
			for i := range times {
				times[i] = draws.Int64N(20)
			}
		}
	}
	return x
}

// made is what Make is asked.
type made struct {
	x      api.Instance
	tours  []api.Tour
	clock  int64
	booked []int
}

// drawnMade is tours in which some stand, often with pins, and now and then what has no plan.
func drawnMade(draws *rand.Rand) made {
	m := made{x: drawnInstance(draws), clock: draws.Int64N(20) * draws.Int64N(2)}
	m.tours = regret.Start(m.x, 0)
	for _, i := range draws.Perm(len(m.x.Rides)) {
		for range []int{0, 1, 1, 1, 1, 1, 1, 2}[draws.IntN(8)] {
			m.addDrawn(draws, draws.IntN(len(m.tours)), i+1)
		}
	}
	for request := range len(m.x.Rides) + 4 {
		for range draws.IntN(3) {
			m.booked = append(m.booked, request-1)
		}
	}
	draws.Shuffle(len(m.booked), func(i, j int) { m.booked[i], m.booked[j] = m.booked[j], m.booked[i] })
	for car, one := range m.tours {
		r, e := sched.Plan(m.x, car, one.Seq, 0, nil)
		if e == api.OK && draws.IntN(3) == 0 {
			m.tours[car] = tour(one.Seq, r.Times[:draws.IntN(len(r.Times)+1)]...)
		}
		if draws.IntN(20) == 0 {
			one.Seq[draws.IntN(len(one.Seq))] = draws.IntN(len(m.x.Stops)+2) - 1
		}
	}
	switch draws.IntN(30) {
	case 0:
		m.tours = append(m.tours, tour(slices.Clone(m.tours[0].Seq)))
	case 1:
		m.tours = m.tours[:len(m.tours)-1]
	case 2:
		m.x.Cars[0].Max = -1
	case 3:
		m.clock = -1
	}
	return m
}

// addDrawn puts a request into a tour where there is a place, be it in another one or not.
func (m made) addDrawn(draws *rand.Rand, car, request int) {
	places := slices.Collect(insert.All(m.x, car, m.tours[car], 0, request))
	if len(places) > 0 {
		m.tours[car] = insert.Put(m.x, m.tours[car], request, places[draws.IntN(len(places))])
	}
}

// standing is in how many rows each request is picked up.
func standing(x api.Instance, list [][]int) map[int]int {
	many := map[int]int{}
	for _, row := range list {
		for request := 1; request <= len(x.Rides); request++ {
			if slices.Contains(row, request) {
				many[request]++
			}
		}
	}
	return many
}

// isIdle tells whether a row is of both depots alone, without pins.
func isIdle(x api.Instance, row []int, list []api.Pin) bool {
	return len(list) == 0 && len(row) == 2 && row[0] == 0 && row[1] == 2*len(x.Rides)+1
}

// wanted is the plan that Make must tell, or the error.
func (m made) wanted() (Plan, api.Errno) {
	if inst.Check(m.x) != api.OK || len(m.tours) != len(m.x.Cars) {
		return Plan{}, api.ErrArg
	}
	var p Plan
	for car, one := range m.tours {
		if !insert.Right(m.x, car, one, m.clock) {
			return Plan{}, api.ErrTime
		}
		var times []int64
		if !isIdle(m.x, one.Seq, one.Pins) {
			r, _ := sched.Plan(m.x, car, one.Seq, m.clock, one.Pins)
			times = r.Times
		}
		p.Routes, p.Times = append(p.Routes, one.Seq), append(p.Times, times)
		for i := range len(one.Seq) - 1 {
			p.Cost += inst.Travel(m.x, one.Seq[i], one.Seq[i+1])
		}
	}
	many := standing(m.x, p.Routes)
	for request := 1; request <= len(m.x.Rides); request++ {
		if many[request] > 1 {
			return Plan{}, api.ErrTwice
		}
		if many[request] == 0 && slices.Contains(m.booked, request) {
			p.Left = append(p.Left, request)
		}
	}
	return p, api.OK
}

// P22.1: the plans of drawn tours are as the chapter's words.
func TestMakeOfDrawnTours(t *testing.T) {
	draws := rand.New(rand.NewPCG(1, 2))
	met := map[api.Errno]int{}
	left, pinned := 0, 0
	for range 6000 {
		m := drawnMade(draws)
		want, wrong := m.wanted()
		for range 2 {
			if p, e := Make(m.x, m.tours, m.clock, m.booked); e != wrong || !same(p, want) || !Same(p, want) {
				t.Fatalf("%+v: %+v, %d; not %+v, %d", m, p, e, want, wrong)
			}
		}
		met[wrong]++
		left += len(want.Left)
		for car := range want.Routes {
			pinned += len(m.tours[car].Pins)
		}
	}
	if met[api.OK] < 2000 || met[api.ErrArg] < 300 || met[api.ErrTime] < 300 || met[api.ErrTwice] < 150 || left < 2000 || pinned < 2000 {
		t.Errorf("hardly asked: %v, %d left, %d pins", met, left, pinned)
	}
}

// plan is what Check is asked of what Make told, with the tours' pins, and those who stand or are left; false, if there is no plan.
func (m made) plan() (*asked, bool) {
	p, e := Make(m.x, m.tours, m.clock, m.booked)
	a := &asked{x: m.x, p: p, clock: m.clock}
	for _, one := range m.tours {
		a.pins = append(a.pins, one.Pins)
	}
	a.booked = slices.Concat(p.Left, Served(m.x, p), p.Left)
	return a, e == api.OK
}

// P22.2: what Make tells passes; with another cost, or a time too early, it doesn't.
func TestWhatIsMadePasses(t *testing.T) {
	draws := rand.New(rand.NewPCG(3, 4))
	made, early := 0, 0
	for range 3000 {
		a, ok := drawnMade(draws).plan()
		if !ok {
			continue
		}
		made++
		if e := a.check(); e != api.OK {
			t.Fatalf("%+v: %d", a, e)
		}
		for _, cost := range []int64{a.p.Cost - 1, a.p.Cost + 1, -a.p.Cost - 1, a.p.Cost + 1<<32, draws.Int64()} {
			b := *a
			if b.p.Cost = cost; cost != a.p.Cost && b.check() != api.ErrSmall {
				t.Fatalf("%+v: a cost of %d: %d", a, cost, b.check())
			}
		}
		for car, times := range a.p.Times {
			for i, time := range times {
				if times[i] = a.soonest(car, i) - 1; a.check() != api.ErrTime {
					t.Fatalf("%+v: car %d, place %d: %d", a, car, i, a.check())
				}
				times[i] = time
				early++
			}
		}
	}
	if made < 1000 || early < 5000 {
		t.Errorf("hardly asked: %d plans, %d times", made, early)
	}
}

// soonest is the earliest time that a stop of a row can have, behind the one ahead of it.
func (a *asked) soonest(car, place int) int64 {
	row, times := a.p.Routes[car], a.p.Times[car]
	if place < len(a.pins[car]) {
		return times[place]
	}
	soon := max(a.x.Stops[row[place]].Early, a.clock)
	if place > 0 {
		soon = max(soon, times[place-1]+a.x.Stops[row[place-1]].Service+inst.Travel(a.x, row[place-1], row[place]))
	}
	return soon
}

// wanted is the error that Check must tell.
func (a *asked) wanted() api.Errno {
	cars := len(a.x.Cars)
	if inst.Check(a.x) != api.OK || len(a.p.Routes) != cars || len(a.p.Times) != cars || len(a.pins) != cars {
		return api.ErrArg
	}
	var cost int64
	for car, row := range a.p.Routes {
		right := rule.Hold(a.x, car, row, a.clock, a.pins[car], a.p.Times[car])
		if isIdle(a.x, row, a.pins[car]) {
			right = seqn.Check(a.x, car, row) == api.OK && len(a.p.Times[car]) == 0
		}
		if !right {
			return api.ErrTime
		}
		for i := range len(row) - 1 {
			cost += inst.Travel(a.x, row[i], row[i+1])
		}
	}
	many, booked := standing(a.x, a.p.Routes), map[int]int{}
	for _, request := range a.p.Left {
		many[request]++
	}
	for _, request := range a.booked {
		booked[request]++
	}
	twice, none, falls := false, false, false
	for request, m := range many {
		twice, none = twice || m > 1, none || m > 0 && booked[request] == 0
	}
	for request := range booked {
		none = none || many[request] == 0
	}
	for i := range max(1, len(a.p.Left)) - 1 {
		falls = falls || a.p.Left[i] >= a.p.Left[i+1]
	}
	switch {
	case twice:
		return api.ErrTwice
	case none:
		return api.ErrNone
	case cost != a.p.Cost:
		return api.ErrSmall
	case falls:
		return api.ErrForm
	}
	return api.OK
}

// turn turns something in what Check is asked.
func (a *asked) turn(draws *rand.Rand) {
	car, n := draws.IntN(len(a.p.Routes)), len(a.x.Rides)
	list := a.p.Times[car]
	switch draws.IntN(12) {
	case 0:
		a.p.Left = append(a.p.Left, draws.IntN(n+3)-1)
	case 1:
		draws.Shuffle(len(a.p.Left), func(i, j int) { a.p.Left[i], a.p.Left[j] = a.p.Left[j], a.p.Left[i] })
	case 2:
		a.p.Left = a.p.Left[:draws.IntN(len(a.p.Left)+1)]
	case 3:
		if n > 0 {
			a.booked = append(a.booked, 1+draws.IntN(n))
		}
	case 4:
		a.booked = slices.Delete(a.booked, 0, min(1, len(a.booked)))
	case 5:
		a.p.Cost += draws.Int64N(3) - 1
	case 6, 7:
		if len(list) > 0 {
			list[draws.IntN(len(list))] += draws.Int64N(5) - 2
		}
	case 8:
		for i := range list {
			list[i] += 3
		}
	case 9:
		other := draws.IntN(len(a.p.Routes))
		a.p.Routes[car], a.p.Times[car], a.pins[car] = slices.Clone(a.p.Routes[other]), slices.Clone(a.p.Times[other]), a.pins[other]
	case 10:
		a.clock += draws.Int64N(5) - 2
	case 11:
		a.pins[car] = a.pins[car][:draws.IntN(len(a.pins[car])+1)]
	}
}

// P22.1: of what is turned in a plan the first error is told.
func TestCheckOfTurnedPlans(t *testing.T) {
	draws := rand.New(rand.NewPCG(5, 6))
	met := map[api.Errno]int{}
	for range 20000 {
		a, ok := drawnMade(draws).plan()
		if !ok {
			continue
		}
		for range 1 + draws.IntN(4) {
			a.turn(draws)
		}
		switch draws.IntN(60) {
		case 0:
			a.p.Routes = a.p.Routes[1:]
		case 1:
			a.p.Times = append(a.p.Times, nil)
		case 2:
			a.pins = a.pins[1:]
		}
		want := a.wanted()
		if e := a.check(); e != want {
			t.Fatalf("%+v: %d, not %d", a, e, want)
		}
		met[want]++
	}
	for _, e := range []api.Errno{api.OK, api.ErrArg, api.ErrTime, api.ErrTwice, api.ErrNone, api.ErrSmall, api.ErrForm} {
		if met[e] < 100 {
			t.Errorf("hardly asked: %v", met)
		}
	}
}

// spoilt is a list with something behind its length.
func spoilt[T any](list []T, more ...T) []T {
	return append(slices.Clip(list), more...)[:len(list)]
}

// What is handed in stays as it is, what lies behind it too, and what is answered is new memory, spare room too.
func TestPlansShareNothing(t *testing.T) {
	draws := rand.New(rand.NewPCG(7, 8))
	for range 2000 {
		m := drawnMade(draws)
		for i, one := range m.tours {
			m.tours[i] = api.Tour{Seq: spoilt(one.Seq, 70, 71), Pins: spoilt(one.Pins, api.Pin{At: 72})}
		}
		m.booked = spoilt(m.booked, 3, 2)
		kept, x := m.written(), copied(m.x)
		p, e := Make(m.x, m.tours, m.clock, m.booked)
		want, _ := m.wanted()
		a := &asked{x: m.x, p: p, clock: m.clock, pins: make([][]api.Pin, len(p.Routes)), booked: m.booked}
		a.check()
		Served(m.x, p)
		Same(p, want)
		if e != api.OK {
			continue
		}
		if !same(p, want) {
			t.Fatalf("%+v: turned by what was asked of it: %+v", m, p)
		}
		number := 1000
		for _, list := range append(p.Routes, p.Left) {
			for j := range list[:cap(list)] {
				list[:cap(list)][j] = number
			}
			number++
		}
		for i, list := range append(p.Routes, p.Left) {
			if slices.ContainsFunc(list, func(n int) bool { return n != 1000+i }) {
				t.Fatalf("%+v: lists of one answer share memory", m)
			}
		}
		for i, list := range p.Times {
			for j := range list[:cap(list)] {
				list[:cap(list)][j] = int64(-1 - i)
			}
		}
		for i, list := range p.Times {
			if slices.ContainsFunc(list, func(n int64) bool { return n != int64(-1-i) }) {
				t.Fatalf("%+v: times of one answer share memory", m)
			}
		}
		if !slices.Equal(kept, m.written()) || !inst.Same(x, m.x) {
			t.Fatalf("%+v: what was handed in is turned", m)
		}
	}
}

// written is all that is handed in, with what lies behind the lists.
func (m made) written() []int64 {
	var all []int64
	for _, one := range m.tours {
		for _, stop := range one.Seq[:len(one.Seq)+2] {
			all = append(all, int64(stop))
		}
		for _, pin := range one.Pins[:len(one.Pins)+1] {
			all = append(all, int64(pin.At), pin.Time)
		}
	}
	for _, request := range m.booked[:len(m.booked)+2] {
		all = append(all, int64(request))
	}
	return all
}

// copied is an instance in memory of its own.
func copied(x api.Instance) api.Instance {
	x.Cars, x.Stops, x.Rides, x.Matrix = slices.Clone(x.Cars), slices.Clone(x.Stops), slices.Clone(x.Rides), slices.Clone(x.Matrix)
	for i := range x.Matrix {
		x.Matrix[i] = slices.Clone(x.Matrix[i])
	}
	return x
}

// Check, Same and Served turn nothing of a plan, nor of what lies behind its lists.
func TestCheckTurnsNothing(t *testing.T) {
	for _, f := range append(alone(), fault{"nothing", func(*asked) {}, api.OK}) {
		a := fine()
		f.turn(a)
		a.p.Left, a.booked = spoilt(a.p.Left, 8, 7), spoilt(a.booked, 6, 5)
		for i, row := range a.p.Routes {
			a.p.Routes[i] = spoilt(row, 9, 8)
		}
		b := fine()
		f.turn(b)
		a.check()
		Served(a.x, a.p)
		Same(a.p, b.p)
		if !same(a.p, b.p) || !slices.Equal(a.booked, b.booked) || !inst.Same(a.x, b.x) || !slices.EqualFunc(a.pins, b.pins, slices.Equal[[]api.Pin]) {
			t.Errorf("%s: %+v, not %+v", f.what, a, b)
		}
		if !slices.Equal(a.p.Left[len(a.p.Left):len(a.p.Left)+2], []int{8, 7}) || !slices.Equal(a.booked[len(a.booked):len(a.booked)+2], []int{6, 5}) {
			t.Errorf("%s: behind the lists", f.what)
		}
		for _, row := range a.p.Routes {
			if !slices.Equal(row[len(row):len(row)+2], []int{9, 8}) {
				t.Errorf("%s: behind a row", f.what)
			}
		}
	}
}
