package book

import (
	"math"
	"math/rand/v2"
	"slices"
	"testing"

	"jitney/api"
	"jitney/insert"
	"jitney/inst"
	"jitney/plan"
	"jitney/regret"
	"jitney/sched"
	"jitney/seqn"
)

// model is a book, said by this test's own words: the lists are in order, and gone through.
type model struct {
	x      api.Instance
	clock  int64
	booked []int
	tours  []api.Tour
	times  [][]int64
}

func (m *model) has(request int) bool {
	return slices.Contains(m.booked, request)
}

func (m *model) add(request int) api.Errno {
	if request < 1 || request > len(m.x.Rides) {
		return api.ErrNone
	}
	if m.has(request) {
		return api.ErrTwice
	}
	m.booked = append(m.booked, request)
	slices.Sort(m.booked)
	return api.OK
}

// timesOf is the times of a tour, and whether it is right.
func (m *model) timesOf(car int, t api.Tour) ([]int64, bool) {
	if len(t.Pins) == 0 && slices.Equal(t.Seq, []int{0, 2*len(m.x.Rides) + 1}) {
		return nil, true
	}
	for i, pin := range t.Pins {
		if pin.At != i {
			return nil, false
		}
	}
	r, e := sched.Plan(m.x, car, t.Seq, m.clock, t.Pins)
	return r.Times, e == api.OK
}

func (m *model) cancel(request int) api.Errno {
	if !m.has(request) {
		return api.ErrNone
	}
	for car, t := range m.tours {
		at := slices.Index(t.Seq, request)
		if at < 0 {
			continue
		}
		if at < len(t.Pins) {
			return api.ErrLate
		}
		rest := api.Tour{Seq: seqn.Without(m.x, t.Seq, request), Pins: t.Pins}
		times, right := m.timesOf(car, rest)
		if !right {
			return api.ErrTime
		}
		m.tours[car], m.times[car] = rest, times
	}
	m.booked = slices.DeleteFunc(m.booked, func(one int) bool { return one == request })
	return api.OK
}

func (m *model) tick(clock int64) api.Errno {
	if clock < 0 || clock > api.MaxTime {
		return api.ErrRange
	}
	if clock < m.clock {
		return api.ErrClock
	}
	m.clock = clock
	for car, times := range m.times {
		m.tours[car].Pins = nil
		for at, time := range times {
			if time <= clock {
				m.tours[car].Pins = append(m.tours[car].Pins, api.Pin{At: at, Time: time})
			}
		}
	}
	return api.OK
}

// served is how many stand in tours, each as often as it does.
func served(x api.Instance, tours []api.Tour) map[int]int {
	many := map[int]int{}
	for _, t := range tours {
		for _, stop := range t.Seq {
			if stop >= 1 && stop <= len(x.Rides) {
				many[stop]++
			}
		}
	}
	return many
}

func (m *model) commit(tours []api.Tour) api.Errno {
	if len(tours) != len(m.x.Cars) {
		return api.ErrArg
	}
	all := make([][]int64, len(tours))
	for car, t := range tours {
		times, right := m.timesOf(car, t)
		if !right {
			return api.ErrTime
		}
		all[car] = times
	}
	many, was := served(m.x, tours), served(m.x, m.tours)
	for _, often := range many {
		if often > 1 {
			return api.ErrTwice
		}
	}
	for car, t := range tours {
		if !slices.Equal(t.Pins, m.tours[car].Pins) {
			return api.ErrNone
		}
		for at := range t.Pins {
			if t.Seq[at] != m.tours[car].Seq[at] {
				return api.ErrNone
			}
		}
	}
	for request := range many {
		if !m.has(request) {
			return api.ErrNone
		}
	}
	if len(many) < len(was) || len(many) == len(was) && regret.Cost(m.x, tours) > regret.Cost(m.x, m.tours) {
		return api.ErrSmall
	}
	m.tours, m.times = clonedTours(tours), all
	return api.OK
}

func (m *model) state(request int) int {
	if !m.has(request) {
		return Free
	}
	for _, t := range m.tours {
		for at := range t.Pins {
			if t.Seq[at] == len(m.x.Rides)+request {
				return Done
			}
		}
		for at := range t.Pins {
			if t.Seq[at] == request {
				return Started
			}
		}
	}
	return Booked
}

// told is all that the book must tell.
func (m *model) told() told {
	all := told{clock: m.clock, list: m.booked, tours: m.tours, plan: plan.Plan{Times: m.times}}
	many := served(m.x, m.tours)
	for _, request := range m.booked {
		if many[request] == 0 {
			all.plan.Left = append(all.plan.Left, request)
		}
	}
	for _, t := range m.tours {
		all.plan.Routes = append(all.plan.Routes, t.Seq)
		for i := range len(t.Seq) - 1 {
			all.plan.Cost += inst.Travel(m.x, t.Seq[i], t.Seq[i+1])
		}
	}
	for request := range len(m.x.Rides) + 1 {
		all.states = append(all.states, m.state(request))
	}
	return all
}

func clonedTours(tours []api.Tour) []api.Tour {
	list := make([]api.Tour, len(tours))
	for car, t := range tours {
		list[car] = api.Tour{Seq: slices.Clone(t.Seq), Pins: slices.Clone(t.Pins)}
	}
	return list
}

// drawnInstance is an instance of a few requests, with services and windows, and a Matrix as often as none.
func drawnInstance(draws *rand.Rand, spots bool) api.Instance {
	n, wide := draws.IntN(7), 1+draws.Int64N(2)*300
	x := lying(nil, make([][2]float64, n)...)
	for range 1 + draws.IntN(3) {
		x.Cars = append(x.Cars, api.Car{Cap: api.Load{Seats: 1 + draws.IntN(3)}, Max: 60 + draws.Int64N(400)})
	}
	for i := range x.Stops {
		s := &x.Stops[i]
		s.Spot = complex(float64(draws.IntN(9)-4), float64(draws.IntN(9)-4))
		s.Early = draws.Int64N(80) * draws.Int64N(2)
		s.Late = s.Early + 20 + draws.Int64N(60+wide)
		if inst.Request(x, i) != 0 {
			s.Service = draws.Int64N(3)
		}
	}
	for i := range n {
		x.Rides[i] = 8 + draws.Int64N(80)
	}
	x.Stops[0].Early, x.Stops[0].Late, x.Stops[2*n+1].Late = draws.Int64N(9)*draws.Int64N(2), 300, 500
	if !spots && draws.IntN(2) == 0 {
		x = timed(x, 0)
		for _, times := range x.Matrix {
			for i := range times {
				times[i] = draws.Int64N(12) * (1 + draws.Int64N(2)*draws.Int64N(9))
			}
		}
	}
	return x
}

// drawnTours is tours of which some are offered: mostly turned as may be, now and then as may not be.
func (m *model) drawnTours(draws *rand.Rand) []api.Tour {
	tours := clonedTours(m.tours)
	if n := len(m.x.Rides); n > 0 {
		for range draws.IntN(4) {
			request, car := 1+draws.IntN(n), draws.IntN(len(tours))
			if len(m.booked) > 0 && draws.IntN(20) > 0 {
				request = m.booked[draws.IntN(len(m.booked))]
			}
			for i, t := range tours {
				if rest, ok := insert.Take(m.x, t, request); ok && draws.IntN(20) > 0 {
					tours[i] = rest
				}
			}
			places := slices.Collect(insert.All(m.x, car, tours[car], m.clock, request))
			if len(places) > 0 && draws.IntN(12) > 0 {
				tours[car] = insert.Put(m.x, tours[car], request, places[draws.IntN(len(places))])
			}
		}
	}
	if draws.IntN(2) == 0 {
		tours, _ = regret.Fill(m.x, tours, m.clock, m.booked)
	}
	return m.spoilt(draws, tours)
}

// spoilt turns something that may not be, now and then.
func (m *model) spoilt(draws *rand.Rand, tours []api.Tour) []api.Tour {
	one := &tours[draws.IntN(len(tours))]
	switch draws.IntN(30) {
	case 0:
		tours = append(tours, api.Tour{Seq: seqn.Empty(m.x)})
	case 1:
		tours = tours[1:]
	case 2:
		one.Seq[draws.IntN(len(one.Seq))] = draws.IntN(len(m.x.Stops)+2) - 1
	case 3:
		one.Seq = nil
	case 4, 5:
		one.Pins = one.Pins[:draws.IntN(len(one.Pins)+1)]
	case 6:
		if r, e := sched.Plan(m.x, 0, one.Seq, m.clock, one.Pins); e == api.OK {
			one.Pins = append(one.Pins, api.Pin{At: len(one.Pins), Time: r.Times[min(len(one.Pins), len(r.Times)-1)]})
		}
	case 7:
		if len(one.Pins) > 0 {
			one.Pins[draws.IntN(len(one.Pins))].Time += draws.Int64N(5) - 2
		}
	case 8:
		if len(one.Pins) > 0 {
			one.Pins[draws.IntN(len(one.Pins))].At++
		}
	case 9:
		a, b := draws.IntN(len(one.Seq)), draws.IntN(len(one.Seq))
		one.Seq[a], one.Seq[b] = one.Seq[b], one.Seq[a]
	case 10:
		draws.Shuffle(len(tours), func(i, j int) { tours[i], tours[j] = tours[j], tours[i] })
	case 11:
		*one = tours[draws.IntN(len(tours))]
	}
	return tours
}

// step does something to both, a book and its model, and tells what, and both errors.
func (m *model) step(draws *rand.Rand, b *Book) (what string, e, want api.Errno) {
	request := draws.IntN(len(m.x.Rides)+3) - 1
	switch draws.IntN(9) {
	case 0, 1, 2:
		return "add", b.Add(request), m.add(request)
	case 3:
		if len(m.booked) > 0 && draws.IntN(3) > 0 {
			request = m.booked[draws.IntN(len(m.booked))]
		}
		return "cancel", b.Cancel(request), m.cancel(request)
	case 4, 5:
		clock := m.clock + draws.Int64N(8)
		if draws.IntN(8) == 0 {
			clock = []int64{-1, m.clock - 1, m.clock - 5, api.MaxTime + 1, math.MinInt64, math.MaxInt64, 0, m.clock + 100}[draws.IntN(8)]
		}
		return "tick", b.Tick(clock), m.tick(clock)
	}
	tours := m.drawnTours(draws)
	kept := clonedTours(tours)
	e = b.Commit(tours)
	if !sameTours(tours, kept) {
		panic("what was offered is turned")
	}
	want = m.commit(tours)
	for _, t := range tours { // what was handed in may be written over
		for i := range t.Seq {
			t.Seq[i] = -7
		}
		for i := range t.Pins {
			t.Pins[i].Time = -7
		}
	}
	return "commit", e, want
}

// P25.1, P25.2: drawn days are as the chapter's words, step by step; what is frozen stays, and the plan passes.
func TestDrawnDays(t *testing.T) {
	draws := rand.New(rand.NewPCG(1, 2))
	met, frozen := map[string]map[api.Errno]int{"add": {}, "cancel": {}, "tick": {}, "commit": {}}, 0
	states := map[int]int{}
	for range 2500 {
		x := drawnInstance(draws, false)
		b := opened(t, x)
		m := &model{x: x, tours: regret.Start(x, 0), times: make([][]int64, len(x.Cars))}
		for range 40 {
			before := clonedTours(m.tours)
			what, e, want := m.step(draws, b)
			all := tellAll(b)
			if e != want || !all.same(m.told()) {
				t.Fatalf("%+v: %s: %d, not %d: %+v, not %+v", x, what, e, want, all, m.told())
			}
			met[what][e]++
			passes(t, b)
			for car, old := range before {
				at, now := len(old.Pins), all.tours[car]
				if len(now.Pins) < at || !slices.Equal(now.Pins[:at], old.Pins) || !slices.Equal(now.Seq[:at], old.Seq[:at]) {
					t.Fatalf("%+v: %s: from %+v to %+v", x, what, old, now)
				}
				for i, pin := range old.Pins {
					if all.plan.Times[car][i] != pin.Time {
						t.Fatalf("%+v: %s: frozen at %+v, planned at %v", x, what, old, all.plan.Times[car])
					}
				}
				frozen += at
			}
			for _, state := range all.states {
				states[state]++
			}
		}
	}
	hardly := frozen < 10000 || states[Started] < 1000 || states[Done] < 1000
	for what, list := range map[string][]api.Errno{"add": {api.OK, api.ErrNone, api.ErrTwice}, "cancel": {api.OK, api.ErrNone, api.ErrLate, api.ErrTime}, "tick": {api.OK, api.ErrRange, api.ErrClock}, "commit": {api.OK, api.ErrArg, api.ErrTime, api.ErrTwice, api.ErrNone, api.ErrSmall}} {
		for _, e := range list {
			hardly = hardly || met[what][e] < 50
		}
	}
	if hardly {
		t.Errorf("hardly asked: %v, %d frozen, %v", met, frozen, states)
	}
}

// roundabout is an instance with the times of another one's spots in its Matrix, some of them greater by a bit, as far as it stays Short.
func roundabout(draws *rand.Rand, x api.Instance) api.Instance {
	of := timed(x, 0)
	for i, times := range of.Matrix {
		for j := range times {
			times[j] = inst.Travel(x, i, j)
		}
	}
	for range 30 {
		time := &of.Matrix[draws.IntN(len(x.Stops))][draws.IntN(len(x.Stops))]
		*time++
		if !inst.Short(of) {
			*time--
		}
	}
	return of
}

// P25.3: where no way round is shorter, Cancel never answers ErrTime, at whatever time of whichever day.
func TestWhoeverIsNotPickedUpCanCancel(t *testing.T) {
	draws := rand.New(rand.NewPCG(3, 4))
	gone, late := 0, 0
	for i := range 2500 {
		x := drawnInstance(draws, true)
		if i%2 == 0 {
			x = roundabout(draws, x)
		}
		if !inst.Short(x) {
			t.Fatalf("%+v: not short", x)
		}
		b := opened(t, x)
		for request := range len(x.Rides) {
			must(t, "add", b.Add(request+1), api.OK)
		}
		for range 12 {
			tours, _ := regret.Fill(x, b.Tours(), b.Clock(), b.List())
			must(t, "commit", b.Commit(tours), api.OK)
			must(t, "tick", b.Tick(b.Clock()+draws.Int64N(12)), api.OK)
			request := 1 + draws.IntN(len(x.Rides)+1)
			stood, state := served(x, b.Tours())[request] > 0, b.State(request)
			switch e := b.Cancel(request); {
			case e == api.ErrTime:
				t.Fatalf("%+v: %d can't cancel: %+v", x, request, tellAll(b))
			case e == api.OK && stood:
				gone++
			case e == api.ErrLate && state >= Started:
				late++
			case e != api.OK && state == Booked || e == api.OK && state != Booked:
				t.Fatalf("%+v: %d, of state %d: %d", x, request, state, e)
			}
			passes(t, b)
		}
	}
	if gone < 1500 || late < 1500 {
		t.Errorf("hardly asked: %d gone, %d begun", gone, late)
	}
}

// P25.2, P4: what is committed can be driven: at its own times the day goes on to its end, tick by tick, and nothing is late.
func TestWhatIsCommittedIsDriven(t *testing.T) {
	draws := rand.New(rand.NewPCG(5, 6))
	driven := 0
	for range 1200 {
		x := drawnInstance(draws, false)
		b := opened(t, x)
		for request := range len(x.Rides) {
			must(t, "add", b.Add(request+1), api.OK)
		}
		tours, _ := regret.Seed(x, 0, b.List())
		must(t, "commit", b.Commit(tours), api.OK)
		planned := b.Plan()
		for b.Clock() < 600 {
			must(t, "tick", b.Tick(b.Clock()+1+draws.Int64N(20)), api.OK)
			if !plan.Same(b.Plan(), planned) {
				t.Fatalf("%+v: at %d %+v, not %+v", x, b.Clock(), b.Plan(), planned)
			}
			for car, one := range b.Tours() {
				if !insert.Right(x, car, one, b.Clock()) {
					t.Fatalf("%+v: at %d %+v", x, b.Clock(), one)
				}
			}
			passes(t, b)
		}
		for car, one := range b.Tours() {
			if len(one.Pins) != len(planned.Times[car]) {
				t.Fatalf("%+v: at the end %+v", x, one)
			}
			driven += len(one.Pins)
		}
	}
	if driven < 5000 {
		t.Errorf("hardly asked: %d", driven)
	}
}

// What is answered is new memory, spare room too, and what is handed in isn't kept.
func TestBooksShareNothing(t *testing.T) {
	draws := rand.New(rand.NewPCG(7, 8))
	for range 400 {
		x := drawnInstance(draws, false)
		own := turned(x, func(x *api.Instance) {
			x.Cars, x.Stops, x.Rides, x.Matrix = slices.Clone(x.Cars), slices.Clone(x.Stops), slices.Clone(x.Rides), slices.Clone(x.Matrix)
			for i := range x.Matrix {
				x.Matrix[i] = slices.Clone(x.Matrix[i])
			}
		})
		b := opened(t, x)
		for request := range len(x.Rides) {
			must(t, "add", b.Add(request+1), api.OK)
		}
		spoilInstance(x)
		tours, _ := regret.Seed(own, 0, b.List()[:len(own.Rides)/2])
		must(t, "commit", b.Commit(tours), api.OK)
		spoilTours(tours)
		must(t, "tick", b.Tick(30), api.OK)
		before := tellAll(b)
		spoilInstance(b.Instance())
		spoilTours(b.Tours())
		list := b.List()
		spoil(list, -9)
		p := b.Plan()
		for i, row := range append(p.Routes, p.Left) {
			spoil(row, -9-i)
		}
		for i, row := range append(p.Routes, p.Left) {
			if slices.ContainsFunc(row, func(stop int) bool { return stop != -9-i }) {
				t.Fatal("rows share memory")
			}
		}
		for i, times := range p.Times {
			spoil(times, int64(-9-i))
		}
		for i, times := range p.Times {
			if slices.ContainsFunc(times, func(time int64) bool { return time != int64(-9-i) }) {
				t.Fatal("times share memory")
			}
		}
		if after := tellAll(b); !after.same(before) || !inst.Same(b.Instance(), own) {
			t.Fatalf("%+v, not %+v", after, before)
		}
		passes(t, b)
	}
}

// spoil writes over a list, and over the room behind it.
func spoil[T any](list []T, by T) {
	list = list[:cap(list)]
	for i := range list {
		list[i] = by
	}
}

func spoilTours(tours []api.Tour) {
	for _, one := range tours {
		spoil(one.Seq, -9)
		spoil(one.Pins, api.Pin{At: -9})
	}
	spoil(tours, api.Tour{})
}

func spoilInstance(x api.Instance) {
	spoil(x.Cars, api.Car{Max: -9})
	spoil(x.Stops, api.Stop{Service: -9})
	spoil(x.Rides, -9)
	for _, times := range x.Matrix {
		spoil(times, -9)
	}
	spoil(x.Matrix, nil)
}

// P1: of as many cars, requests and stops as may be all ends soon.
func TestTheMost(t *testing.T) {
	const n = api.MaxStops/2 - 1
	x := lying(slices.Repeat([]int{1}, api.MaxCars), make([][2]float64, n)...)
	for i := range x.Stops {
		x.Stops[i].Late = api.MaxTime
	}
	b := opened(t, x)
	tours := b.Tours()
	var row []int
	for request := 1; request <= n; request++ {
		must(t, "add", b.Add(request), api.OK)
		row = append(row, request, n+request)
	}
	tours[63].Seq = slices.Concat([]int{0}, row, []int{2*n + 1})
	must(t, "tick", b.Tick(9), api.OK)
	must(t, "commit", b.Commit(tours), api.OK)
	for request := n; request > n-20; request-- {
		must(t, "cancel", b.Cancel(request), api.OK)
	}
	must(t, "tick", b.Tick(9), api.OK)
	for request := 1; request <= n-20; request++ {
		if b.State(request) != Done {
			t.Fatalf("%d: %d", request, b.State(request))
		}
		must(t, "cancel", b.Cancel(request), api.ErrLate)
	}
	passes(t, b)
}
