package book

import (
	"math"
	"slices"
	"testing"

	"jitney/api"
	"jitney/insert"
	"jitney/inst"
	"jitney/plan"
)

// lying is an instance of requests from place to place on a line, one seat each, with cars of so many seats; nothing else holds anybody.
func lying(seats []int, places ...[2]float64) api.Instance {
	n := len(places)
	x := api.Instance{Rides: slices.Repeat([]int64{1000}, n), Stops: make([]api.Stop, 2*n+2)}
	for _, many := range seats {
		x.Cars = append(x.Cars, api.Car{Cap: api.Load{Seats: many}, Max: 1000})
	}
	for i := range x.Stops {
		x.Stops[i].Late = 1000
	}
	for i, p := range places {
		x.Stops[1+i].Spot, x.Stops[1+n+i].Spot = complex(p[0], 0), complex(p[1], 0)
		x.Stops[1+i].Load.Seats, x.Stops[1+n+i].Load.Seats = 1, -1
	}
	return x
}

// two is two requests on a line, from 1 to 3 and from 2 to 4.
func two(seats ...int) api.Instance {
	return lying(seats, [2]float64{1, 3}, [2]float64{2, 4})
}

// four is four requests on a line.
func four(seats ...int) api.Instance {
	return lying(seats, [2]float64{1, 3}, [2]float64{2, 4}, [2]float64{3, 5}, [2]float64{4, 6})
}

// turned is an instance in which something is turned.
func turned(x api.Instance, turn func(x *api.Instance)) api.Instance {
	turn(&x)
	return x
}

// timed is an instance with a Matrix with such a time from each stop to each other one.
func timed(x api.Instance, time int64) api.Instance {
	x.Matrix = nil
	for i := range x.Stops {
		x.Matrix = append(x.Matrix, slices.Repeat([]int64{time}, len(x.Stops)))
		x.Matrix[i][i] = 0
	}
	return x
}

func pins(times ...int64) []api.Pin {
	var list []api.Pin
	for i, time := range times {
		list = append(list, api.Pin{At: i, Time: time})
	}
	return list
}

// tour is a row, and pins at these times for its first stops.
func tour(seq []int, times ...int64) api.Tour {
	return api.Tour{Seq: seq, Pins: pins(times...)}
}

// rows is tours of these rows, without pins.
func rows(seqs ...[]int) []api.Tour {
	tours := make([]api.Tour, len(seqs))
	for i, seq := range seqs {
		tours[i].Seq = seq
	}
	return tours
}

// opened is a book in which these have booked.
func opened(t *testing.T, x api.Instance, booked ...int) *Book {
	t.Helper()
	b, e := New(x)
	if e != api.OK || b == nil {
		t.Fatalf("%+v: %d", x, e)
	}
	for _, request := range booked {
		must(t, "add", b.Add(request), api.OK)
	}
	return b
}

func must(t *testing.T, what string, e, want api.Errno) {
	t.Helper()
	if e != want {
		t.Fatalf("%s: %d, not %d", what, e, want)
	}
}

// told is all that a book tells.
type told struct {
	clock  int64
	list   []int
	tours  []api.Tour
	plan   plan.Plan
	states []int
}

func tellAll(b *Book) told {
	all := told{clock: b.Clock(), list: b.List(), tours: b.Tours(), plan: b.Plan()}
	for request := range inst.Count(b.Instance()) + 1 {
		all.states = append(all.states, b.State(request))
	}
	return all
}

func sameTours(a, b []api.Tour) bool {
	return slices.EqualFunc(a, b, func(a, b api.Tour) bool {
		return slices.Equal(a.Seq, b.Seq) && slices.Equal(a.Pins, b.Pins)
	})
}

func (a told) same(b told) bool {
	return a.clock == b.clock && slices.Equal(a.list, b.list) && sameTours(a.tours, b.tours) && plan.Same(a.plan, b.plan) && slices.Equal(a.states, b.states)
}

// stands holds what a book tells against what it must.
func stands(t *testing.T, what string, b *Book, want told) {
	t.Helper()
	for car, one := range want.tours {
		want.plan.Routes = append(want.plan.Routes, one.Seq)
		if len(want.plan.Times) <= car {
			want.plan.Times = append(want.plan.Times, nil)
		}
	}
	if got := tellAll(b); !got.same(want) {
		t.Errorf("%s: %+v, not %+v", what, got, want)
	}
	passes(t, b)
}

// passes holds a book's plan against layer 22's Check (P25.2).
func passes(t *testing.T, b *Book) {
	t.Helper()
	var frozen [][]api.Pin
	for _, one := range b.Tours() {
		frozen = append(frozen, one.Pins)
	}
	if e := plan.Check(b.Instance(), b.Plan(), b.Clock(), frozen, b.List()); e != api.OK {
		t.Fatalf("%+v: the plan doesn't pass: %d", tellAll(b), e)
	}
}

// refuses holds the error of a call, that must turn nothing, against what it must be.
func refuses(t *testing.T, what string, b *Book, do func() api.Errno, want api.Errno) {
	t.Helper()
	before := tellAll(b)
	if e := do(); e != want {
		t.Errorf("%s: %d, not %d", what, e, want)
	}
	if after := tellAll(b); !after.same(before) {
		t.Errorf("%s: turned from %+v to %+v", what, before, after)
	}
}

// P25.1: how far a request can be.
func TestStates(t *testing.T) {
	for i, state := range []int{Free, Booked, Started, Done} {
		if state != i {
			t.Errorf("state %d is %d", i, state)
		}
	}
}

// P25.1: a new book, of instances of all kinds.
func TestNew(t *testing.T) {
	b := opened(t, two(1, 2))
	stands(t, "new", b, told{tours: rows([]int{0, 5}, []int{0, 5}), states: []int{0, 0, 0}})
	if !inst.Same(b.Instance(), two(1, 2)) {
		t.Errorf("another instance: %+v", b.Instance())
	}
	b = opened(t, timed(two(1), 7))
	stands(t, "with a Matrix", b, told{tours: rows([]int{0, 5}), plan: plan.Plan{Cost: 7}, states: []int{0, 0, 0}})
	if !inst.Same(b.Instance(), timed(two(1), 7)) {
		t.Errorf("another Matrix: %+v", b.Instance())
	}
	b = opened(t, lying([]int{1}))
	stands(t, "without requests", b, told{tours: rows([]int{0, 1}), states: []int{0}})
	must(t, "add", b.Add(1), api.ErrNone)
	must(t, "commit", b.Commit(rows([]int{0, 1})), api.OK)
	must(t, "tick", b.Tick(api.MaxTime), api.OK)
	stands(t, "without requests, at the end", b, told{clock: api.MaxTime, tours: rows([]int{0, 1}), states: []int{0}})
	for _, c := range []struct {
		what string
		x    api.Instance
		want api.Errno
	}{
		{"nothing", api.Instance{}, api.ErrArg}, {"no cars", turned(two(1), func(x *api.Instance) { x.Cars = nil }), api.ErrArg}, {"too many cars", two(make([]int, api.MaxCars+1)...), api.ErrMany}, {"a stop too few", turned(two(1), func(x *api.Instance) { x.Stops = x.Stops[1:] }), api.ErrArg}, {"a day too long", turned(two(1), func(x *api.Instance) { x.Cars[0].Max = -1 }), api.ErrRange}, {"a wrong load", turned(two(1), func(x *api.Instance) { x.Stops[4].Load.Seats = 1 }), api.ErrLoad}, {"a Matrix too small", turned(two(1), func(x *api.Instance) { x.Matrix = make([][]int64, 6) }), api.ErrArg}, {"a time below 0", timed(two(1), -1), api.ErrRange}, {"nowhere", turned(two(1), func(x *api.Instance) { x.Stops[1].Spot = complex(math.NaN(), 0) }), api.ErrRange},
	} {
		if b, e := New(c.x); e != c.want || b != nil {
			t.Errorf("%s: %v %d, not %d", c.what, b, e, c.want)
		}
	}
}

// P25.1: who can book, and be taken out.
func TestAddAndCancel(t *testing.T) {
	b := opened(t, four(1))
	for _, request := range []int{0, 5, -1, 8, 9, math.MinInt, math.MaxInt} {
		refuses(t, "no such one", b, func() api.Errno { return b.Add(request) }, api.ErrNone)
		refuses(t, "no such one", b, func() api.Errno { return b.Cancel(request) }, api.ErrNone)
		if b.State(request) != Free {
			t.Errorf("%d: %d", request, b.State(request))
		}
	}
	refuses(t, "nobody has", b, func() api.Errno { return b.Cancel(1) }, api.ErrNone)
	idle := rows([]int{0, 9})
	for i, list := range [][]int{{4}, {2, 4}, {1, 2, 4}, {1, 2, 3, 4}} {
		request := []int{4, 2, 1, 3}[i]
		must(t, "add", b.Add(request), api.OK)
		refuses(t, "twice", b, func() api.Errno { return b.Add(request) }, api.ErrTwice)
		if !slices.Equal(b.List(), list) || !slices.Equal(b.Plan().Left, list) || b.State(request) != Booked || !sameTours(b.Tours(), idle) {
			t.Errorf("%+v, not %v", tellAll(b), list)
		}
	}
	for i, list := range [][]int{{1, 3, 4}, {1, 3}, {1}, nil} {
		request := []int{2, 4, 3, 1}[i]
		must(t, "cancel", b.Cancel(request), api.OK)
		refuses(t, "twice", b, func() api.Errno { return b.Cancel(request) }, api.ErrNone)
		if !slices.Equal(b.List(), list) || !slices.Equal(b.Plan().Left, list) || b.State(request) != Free {
			t.Errorf("%+v, not %v", tellAll(b), list)
		}
	}
	must(t, "add again", b.Add(2), api.OK)
	stands(t, "again", b, told{list: []int{2}, tours: idle, plan: plan.Plan{Left: []int{2}}, states: []int{0, 0, 1, 0, 0}})
}

// P25.1: the chapter's example.
func TestTheExample(t *testing.T) {
	b := opened(t, two(1))
	must(t, "add", b.Add(1), api.OK)
	must(t, "commit", b.Commit(rows([]int{0, 1, 3, 5})), api.OK)
	must(t, "tick", b.Tick(2), api.OK)
	refuses(t, "begun", b, func() api.Errno { return b.Cancel(1) }, api.ErrLate)
}

// P25.1, P25.2: a day, tick by tick.
func TestADay(t *testing.T) {
	b := opened(t, two(2, 2), 1, 2)
	row, idle := []int{0, 1, 2, 3, 4, 5}, []int{0, 5}
	must(t, "commit", b.Commit(rows(idle, row)), api.OK)
	times := []int64{0, 1, 2, 3, 4, 8}
	day := func(clock int64, frozen int, states ...int) {
		t.Helper()
		must(t, "tick", b.Tick(clock), api.OK)
		stands(t, "a day", b, told{clock: clock, list: []int{1, 2}, tours: []api.Tour{tour(idle), tour(row, times[:frozen]...)}, plan: plan.Plan{Times: [][]int64{nil, times}, Cost: 8}, states: states})
	}
	stands(t, "nothing is frozen", b, told{list: []int{1, 2}, tours: rows(idle, row), plan: plan.Plan{Times: [][]int64{nil, times}, Cost: 8}, states: []int{0, 1, 1}})
	day(0, 1, 0, 1, 1)
	day(0, 1, 0, 1, 1)
	day(1, 2, 0, 2, 1)
	day(2, 3, 0, 2, 2)
	day(2, 3, 0, 2, 2)
	day(3, 4, 0, 3, 2)
	day(4, 5, 0, 3, 3)
	day(7, 5, 0, 3, 3)
	day(8, 6, 0, 3, 3)
	day(2000, 6, 0, 3, 3)
	for _, request := range []int{1, 2} {
		refuses(t, "at the end", b, func() api.Errno { return b.Cancel(request) }, api.ErrLate)
		refuses(t, "at the end", b, func() api.Errno { return b.Add(request) }, api.ErrTwice)
	}
	day(api.MaxTime, 6, 0, 3, 3)
	must(t, "the same again", b.Commit(b.Tours()), api.OK)
	day(api.MaxTime, 6, 0, 3, 3)
}

// P25.1: clocks that there aren't, and those that go back.
func TestTick(t *testing.T) {
	b := opened(t, two(1), 1)
	must(t, "commit", b.Commit(rows([]int{0, 1, 3, 5})), api.OK)
	for _, clock := range []int64{-1, math.MinInt64, api.MaxTime + 1, math.MaxInt64} {
		refuses(t, "no such clock", b, func() api.Errno { return b.Tick(clock) }, api.ErrRange)
	}
	must(t, "tick", b.Tick(5), api.OK)
	for _, clock := range []int64{0, 4} {
		refuses(t, "back", b, func() api.Errno { return b.Tick(clock) }, api.ErrClock)
	}
	refuses(t, "below 0 and back", b, func() api.Errno { return b.Tick(-1) }, api.ErrRange)
	must(t, "the same", b.Tick(5), api.OK)
	must(t, "one more", b.Tick(6), api.OK)
	must(t, "the last one", b.Tick(api.MaxTime), api.OK)
	must(t, "the last one again", b.Tick(api.MaxTime), api.OK)
	refuses(t, "just back", b, func() api.Errno { return b.Tick(api.MaxTime - 1) }, api.ErrClock)
	if b.Clock() != api.MaxTime || b.State(1) != Done {
		t.Errorf("%+v", tellAll(b))
	}
}

// P25.1: what is planned since the last tick isn't frozen, though its time is the clock.
func TestWhatIsPlannedIsNotFrozen(t *testing.T) {
	b := opened(t, two(1, 1), 1)
	must(t, "tick", b.Tick(9), api.OK)
	must(t, "commit", b.Commit(rows([]int{0, 1, 3, 5}, []int{0, 5})), api.OK)
	stands(t, "planned", b, told{clock: 9, list: []int{1}, tours: rows([]int{0, 1, 3, 5}, []int{0, 5}), plan: plan.Plan{Times: [][]int64{{9, 10, 12, 15}}, Cost: 6}, states: []int{0, 1, 0}})
	must(t, "cancel", b.Cancel(1), api.OK)
	stands(t, "cancelled", b, told{clock: 9, tours: rows([]int{0, 5}, []int{0, 5}), states: []int{0, 0, 0}})
	must(t, "add", b.Add(1), api.OK)
	must(t, "commit", b.Commit(rows([]int{0, 5}, []int{0, 1, 3, 5})), api.OK)
	must(t, "tick", b.Tick(9), api.OK)
	stands(t, "begun", b, told{clock: 9, list: []int{1}, tours: []api.Tour{tour([]int{0, 5}), tour([]int{0, 1, 3, 5}, 9)}, plan: plan.Plan{Times: [][]int64{nil, {9, 10, 12, 15}}, Cost: 6}, states: []int{0, 1, 0}})
	must(t, "cancel", b.Cancel(1), api.OK)
	stands(t, "but the car is out", b, told{clock: 9, tours: []api.Tour{tour([]int{0, 5}), tour([]int{0, 5}, 9)}, plan: plan.Plan{Times: [][]int64{nil, {9, 9}}}, states: []int{0, 0, 0}})
}

// P25.1: one who cancels is gone from the tour, which has new times; the other tours keep theirs.
func TestCancelFromATour(t *testing.T) {
	row, other := []int{0, 1, 2, 5, 6, 9}, []int{0, 3, 4, 7, 8, 9}
	x := turned(four(2, 2), func(x *api.Instance) { x.Stops[5].Early, x.Stops[7].Early, x.Stops[8].Early = 20, 10, 30 })
	b := opened(t, x, 1, 2, 3, 4)
	must(t, "commit", b.Commit(rows(row, other)), api.OK)
	must(t, "tick", b.Tick(16), api.OK)
	if times := b.Plan().Times; !slices.Equal(times[0], []int64{17, 18, 19, 20, 21, 25}) || !slices.Equal(times[1], []int64{24, 27, 28, 29, 30, 36}) {
		t.Fatalf("%v", times)
	}
	must(t, "tick", b.Tick(17), api.OK)
	must(t, "cancel", b.Cancel(1), api.OK)
	stands(t, "without 1", b, told{clock: 17, list: []int{2, 3, 4}, tours: []api.Tour{tour([]int{0, 2, 6, 9}, 17), tour(other)}, plan: plan.Plan{Times: [][]int64{{17, 19, 21, 25}, {24, 27, 28, 29, 30, 36}}, Cost: 20}, states: []int{0, 0, 1, 1, 1}})
	must(t, "cancel", b.Cancel(4), api.OK)
	stands(t, "without 4", b, told{clock: 17, list: []int{2, 3}, tours: []api.Tour{tour([]int{0, 2, 6, 9}, 17), tour([]int{0, 3, 7, 9})}, plan: plan.Plan{Times: [][]int64{{17, 19, 21, 25}, {17, 20, 22, 27}}, Cost: 18}, states: []int{0, 0, 1, 1, 0}})
	must(t, "cancel", b.Cancel(3), api.OK)
	stands(t, "without 3", b, told{clock: 17, list: []int{2}, tours: []api.Tour{tour([]int{0, 2, 6, 9}, 17), tour([]int{0, 9})}, plan: plan.Plan{Times: [][]int64{{17, 19, 21, 25}, nil}, Cost: 8}, states: []int{0, 0, 1, 0, 0}})
	must(t, "tick", b.Tick(19), api.OK)
	refuses(t, "begun", b, func() api.Errno { return b.Cancel(2) }, api.ErrLate)
	must(t, "tick", b.Tick(24), api.OK)
	refuses(t, "done", b, func() api.Errno { return b.Cancel(2) }, api.ErrLate)
	if b.State(2) != Done {
		t.Errorf("%+v", tellAll(b))
	}
}

// P25.1: times that are told stay till their tour is turned, or tours are committed: with what is frozen since, layer 12 tells others.
func TestTimesStay(t *testing.T) {
	x := turned(four(2, 2), func(x *api.Instance) { x.Stops[1].Late, x.Stops[5].Early, x.Stops[4].Early = 10, 50, 200 })
	b := opened(t, x, 1, 2, 3, 4)
	row, idle := []int{0, 1, 2, 5, 6, 9}, []int{0, 9}
	must(t, "commit", b.Commit(rows(row, []int{0, 4, 8, 9})), api.OK)
	must(t, "tick", b.Tick(9), api.OK)
	is := func(what string, tours []api.Tour, times ...[]int64) {
		t.Helper()
		if p := b.Plan(); !sameTours(b.Tours(), tours) || !slices.EqualFunc(p.Times, times, slices.Equal) {
			t.Fatalf("%s: %+v", what, tellAll(b))
		}
		passes(t, b)
	}
	first := tour(row, 9)
	is("tick", []api.Tour{first, tour([]int{0, 4, 8, 9})}, []int64{9, 10, 11, 50, 51, 55}, []int64{196, 200, 202, 208})
	must(t, "cancel", b.Cancel(4), api.OK)
	is("without 4", []api.Tour{first, tour(idle)}, []int64{9, 10, 11, 50, 51, 55}, nil)
	must(t, "commit", b.Commit(b.Tours()), api.OK)
	is("committed", []api.Tour{first, tour(idle)}, []int64{9, 10, 49, 50, 51, 55}, nil)
	must(t, "commit", b.Commit([]api.Tour{first, tour([]int{0, 3, 7, 9})}), api.OK)
	is("with 3", []api.Tour{first, tour([]int{0, 3, 7, 9})}, []int64{9, 10, 49, 50, 51, 55}, []int64{9, 12, 14, 19})
}

// byOne is two requests of which the second one can be reached in time by the first one's stops alone.
func byOne() api.Instance {
	x := timed(two(2), 1)
	x.Matrix[0][2], x.Stops[2].Late = 90, 50
	return x
}

// P25.1: a tour that isn't right without one; that one has begun is told ahead of it.
func TestCancelOfOneWhoIsOnTheWay(t *testing.T) {
	b := opened(t, byOne(), 1, 2)
	must(t, "commit", b.Commit(rows([]int{0, 1, 2, 3, 4, 5})), api.OK)
	refuses(t, "the way to 2 is by 1", b, func() api.Errno { return b.Cancel(1) }, api.ErrTime)
	must(t, "tick", b.Tick(0), api.OK)
	refuses(t, "with the start's depot frozen", b, func() api.Errno { return b.Cancel(1) }, api.ErrTime)
	must(t, "tick", b.Tick(1), api.OK)
	refuses(t, "begun", b, func() api.Errno { return b.Cancel(1) }, api.ErrLate)
	must(t, "cancel", b.Cancel(2), api.OK)
	stands(t, "without 2", b, told{clock: 1, list: []int{1}, tours: []api.Tour{tour([]int{0, 1, 3, 5}, 0, 1)}, plan: plan.Plan{Times: [][]int64{{0, 1, 2, 3}}, Cost: 3}, states: []int{0, 2, 0}})
}

// P25.1: where the tour is right without one at an earlier clock alone.
func TestCancelAtAClock(t *testing.T) {
	x := timed(two(2), 1)
	x.Matrix[0][2], x.Stops[2].Late, x.Stops[0].Early, x.Stops[1].Early = 20, 28, 3, 25
	x.Cars[0].Max = 40
	b := opened(t, x, 1, 2)
	row := []int{0, 1, 2, 3, 4, 5}
	must(t, "commit", b.Commit(rows(row)), api.OK)
	if times := b.Plan().Times[0]; !slices.Equal(times, []int64{24, 25, 26, 27, 28, 29}) {
		t.Fatalf("%v", times)
	}
	must(t, "tick", b.Tick(9), api.OK)
	refuses(t, "too late", b, func() api.Errno { return b.Cancel(1) }, api.ErrTime)
	b = opened(t, x, 1, 2)
	must(t, "commit", b.Commit(rows(row)), api.OK)
	must(t, "tick", b.Tick(8), api.OK)
	must(t, "just in time", b.Cancel(1), api.OK)
	stands(t, "without 1", b, told{clock: 8, list: []int{2}, tours: rows([]int{0, 2, 4, 5}), plan: plan.Plan{Times: [][]int64{{8, 28, 29, 30}}, Cost: 22}, states: []int{0, 0, 1}})
}

// offer is what Commit may be asked, and what it must answer.
type offer struct {
	what  string
	tours []api.Tour
	want  api.Errno
}

// driving is a book of two cars at clock 20, of which the first one is on its way with 1, to 2, and the second one is to drive 3; 4 is left, 5 hasn't booked.
func driving(t *testing.T) *Book {
	x := lying([]int{2, 2}, [2]float64{10, 30}, [2]float64{20, 40}, [2]float64{1, 2}, [2]float64{50, 60}, [2]float64{5, 6})
	x.Stops[3].Early = 200
	b := opened(t, x, 1, 2, 3, 4)
	must(t, "commit", b.Commit(rows([]int{0, 1, 2, 6, 7, 11}, []int{0, 3, 8, 11})), api.OK)
	must(t, "tick", b.Tick(15), api.OK)
	stands(t, "driving", b, told{clock: 15, list: []int{1, 2, 3, 4}, tours: []api.Tour{tour([]int{0, 1, 2, 6, 7, 11}, 0, 10), tour([]int{0, 3, 8, 11})}, plan: plan.Plan{Times: [][]int64{{0, 10, 20, 30, 40, 80}, {199, 200, 201, 203}}, Left: []int{4}, Cost: 84}, states: []int{0, 2, 1, 1, 1, 0}})
	return b
}

// offers is what the driving book may be asked. One that is refused has one fault alone, but where two are told.
func offers() []offer {
	first, second := []int{0, 1, 2, 6, 7, 11}, []int{0, 3, 8, 11}
	kept, other := tour(first, 0, 10), tour(second)
	return []offer{
		{"the same", []api.Tour{kept, other}, api.OK}, {"with 4", []api.Tour{kept, tour([]int{0, 3, 8, 4, 9, 11})}, api.OK}, {"with 4 behind", []api.Tour{tour([]int{0, 1, 2, 6, 7, 4, 9, 11}, 0, 10), other}, api.OK}, {"as many, for less", []api.Tour{tour([]int{0, 1, 2, 6, 7, 3, 8, 11}, 0, 10), tour([]int{0, 11})}, api.OK}, {"more, for more", []api.Tour{kept, tour([]int{0, 4, 9, 3, 8, 11})}, api.OK},
		{"none", nil, api.ErrArg}, {"one too few", []api.Tour{kept}, api.ErrArg}, {"one too many", []api.Tour{kept, other, tour([]int{0, 11})}, api.ErrArg}, {"one too many, and wrong", []api.Tour{tour(nil), kept, other}, api.ErrArg},
		{"no row", []api.Tour{kept, {}}, api.ErrTime}, {"a drop ahead", []api.Tour{kept, tour([]int{0, 8, 3, 11})}, api.ErrTime}, {"too full", []api.Tour{tour([]int{0, 1, 2, 3, 6, 7, 8, 11}, 0, 10), tour([]int{0, 11})}, api.ErrTime}, {"pins the other way", []api.Tour{{Seq: first, Pins: []api.Pin{{At: 1, Time: 10}, {At: 0, Time: 0}}}, other}, api.ErrTime}, {"a pin too early", []api.Tour{tour(first, 0, 9), other}, api.ErrTime}, {"too many pins", []api.Tour{tour(first, 0, 10, 20, 30, 40, 80, 90), other}, api.ErrTime}, {"one is right, the other isn't", []api.Tour{tour([]int{0, 2, 1, 6, 7, 11}, 0, 10), other}, api.ErrTime}, {"wrong, and twice", []api.Tour{kept, tour([]int{0, 3, 2, 7, 11})}, api.ErrTime},
		{"2 twice", []api.Tour{kept, tour([]int{0, 2, 7, 3, 8, 11})}, api.ErrTwice}, {"3 twice", []api.Tour{tour([]int{0, 1, 2, 6, 7, 3, 8, 11}, 0, 10), other}, api.ErrTwice}, {"twice, and no pins", []api.Tour{tour(first), tour([]int{0, 2, 7, 3, 8, 11})}, api.ErrTwice}, {"twice, and one who hasn't booked", []api.Tour{kept, tour([]int{0, 2, 7, 3, 8, 5, 10, 11})}, api.ErrTwice}, {"5 twice", []api.Tour{tour([]int{0, 1, 2, 6, 7, 5, 10, 11}, 0, 10), tour([]int{0, 5, 10, 3, 8, 11})}, api.ErrTwice},
		{"no pins", []api.Tour{tour(first), other}, api.ErrNone}, {"a pin too few", []api.Tour{tour(first, 0), other}, api.ErrNone}, {"a pin too many", []api.Tour{tour(first, 0, 10, 20), other}, api.ErrNone}, {"another pin", []api.Tour{tour(first, 0, 11), other}, api.ErrNone}, {"a pin of the other one", []api.Tour{kept, tour(second, 40)}, api.ErrNone}, {"another frozen stop", []api.Tour{tour([]int{0, 3, 8, 1, 2, 6, 7, 11}, 0, 10), tour([]int{0, 11})}, api.ErrNone}, {"so too, serving all", []api.Tour{tour([]int{0, 3, 1, 8, 6, 2, 7, 11}, 0, 10), tour([]int{0, 4, 9, 11})}, api.ErrNone}, {"the frozen one in the other tour", []api.Tour{tour([]int{0, 3, 8, 11}, 0, 10), tour([]int{0, 1, 2, 6, 7, 11})}, api.ErrNone}, {"the other way", []api.Tour{other, kept}, api.ErrNone}, {"idle ones", rows([]int{0, 11}, []int{0, 11}), api.ErrNone},
		{"one who hasn't booked", []api.Tour{kept, tour([]int{0, 5, 10, 3, 8, 11})}, api.ErrNone}, {"one instead", []api.Tour{kept, tour([]int{0, 5, 10, 11})}, api.ErrNone}, {"one who hasn't, and fewer", []api.Tour{tour([]int{0, 1, 6, 11}, 0, 10), tour([]int{0, 5, 10, 11})}, api.ErrNone}, {"no pins, and fewer", []api.Tour{kept, tour([]int{0, 11}, 15)}, api.ErrNone}, {"no pins, and dearer", []api.Tour{tour([]int{0, 1, 6, 2, 7, 11}), other}, api.ErrNone},
		{"fewer", []api.Tour{kept, tour([]int{0, 11})}, api.ErrSmall}, {"fewer yet", []api.Tour{tour([]int{0, 1, 6, 11}, 0, 10), tour([]int{0, 11})}, api.ErrSmall}, {"others, dearer", []api.Tour{kept, tour([]int{0, 4, 9, 11})}, api.ErrSmall}, {"dearer", []api.Tour{tour([]int{0, 1, 6, 2, 7, 11}, 0, 10), other}, api.ErrSmall}, {"fewer, dearer", []api.Tour{tour([]int{0, 1, 4, 9, 6, 11}, 0, 10), tour([]int{0, 11})}, api.ErrSmall}, {"others, cheaper", []api.Tour{tour([]int{0, 1, 6, 3, 8, 11}, 0, 10), tour([]int{0, 2, 7, 11})}, api.ErrSmall},
	}
}

// P25.1: what can be committed, and what can't.
func TestCommit(t *testing.T) {
	for _, o := range offers() {
		b := driving(t)
		if o.want != api.OK {
			refuses(t, o.what, b, func() api.Errno { return b.Commit(o.tours) }, o.want)
			continue
		}
		if e := b.Commit(o.tours); e != api.OK || !sameTours(b.Tours(), o.tours) {
			t.Errorf("%s: %d, %+v", o.what, e, tellAll(b))
		}
		p, e := plan.Make(b.Instance(), o.tours, 15, []int{1, 2, 3, 4})
		if e != api.OK || !plan.Same(b.Plan(), p) {
			t.Errorf("%s: %+v, not %+v", o.what, b.Plan(), p)
		}
		passes(t, b)
	}
}

// P25.1: fewer for less, as many for as much, and as many others for less.
func TestCommitOfAsMany(t *testing.T) {
	b := opened(t, two(1), 1, 2)
	must(t, "2", b.Commit(rows([]int{0, 2, 4, 5})), api.OK)
	must(t, "2 again", b.Commit(rows([]int{0, 2, 4, 5})), api.OK)
	refuses(t, "nobody, for nothing", b, func() api.Errno { return b.Commit(rows([]int{0, 5})) }, api.ErrSmall)
	must(t, "1, for less", b.Commit(rows([]int{0, 1, 3, 5})), api.OK)
	refuses(t, "2, for more", b, func() api.Errno { return b.Commit(rows([]int{0, 2, 4, 5})) }, api.ErrSmall)
	must(t, "both, for more", b.Commit(rows([]int{0, 1, 3, 2, 4, 5})), api.OK)
	refuses(t, "1, for less", b, func() api.Errno { return b.Commit(rows([]int{0, 1, 3, 5})) }, api.ErrSmall)
	refuses(t, "both, for more", b, func() api.Errno { return b.Commit(rows([]int{0, 2, 4, 1, 3, 5})) }, api.ErrSmall)
	stands(t, "both", b, told{list: []int{1, 2}, tours: rows([]int{0, 1, 3, 2, 4, 5}), plan: plan.Plan{Times: [][]int64{{0, 1, 3, 4, 6, 10}}, Cost: 10}, states: []int{0, 1, 1}})
	must(t, "cancel", b.Cancel(2), api.OK)
	must(t, "1 again", b.Commit(rows([]int{0, 1, 3, 5})), api.OK)
}

// P25.1: all tours have new times at a commit, those too that stay as they are.
func TestCommitTellsNewTimes(t *testing.T) {
	x := turned(two(1, 1), func(x *api.Instance) { x.Stops[2].Early = 10 })
	b := opened(t, x, 1, 2)
	must(t, "commit", b.Commit(rows([]int{0, 5}, []int{0, 2, 4, 5})), api.OK)
	must(t, "tick", b.Tick(8), api.OK)
	times := []int64{8, 10, 12, 16}
	tours := []api.Tour{tour([]int{0, 5}), tour([]int{0, 2, 4, 5}, 8)}
	stands(t, "2", b, told{clock: 8, list: []int{1, 2}, tours: tours, plan: plan.Plan{Times: [][]int64{nil, times}, Left: []int{1}, Cost: 8}, states: []int{0, 1, 1}})
	tours[0].Seq = []int{0, 1, 3, 5}
	must(t, "commit", b.Commit(tours), api.OK)
	stands(t, "both", b, told{clock: 8, list: []int{1, 2}, tours: tours, plan: plan.Plan{Times: [][]int64{{8, 9, 11, 14}, times}, Cost: 14}, states: []int{0, 1, 1}})
	if !insert.Right(x, 1, tours[1], 8) {
		t.Error("it isn't right")
	}
	b = opened(t, two(1, 1), 1)
	one := rows([]int{0, 1, 3, 5}, []int{0, 5})
	must(t, "commit", b.Commit(one), api.OK)
	if times := b.Plan().Times[0]; !slices.Equal(times, []int64{0, 1, 3, 6}) {
		t.Errorf("%v", times)
	}
}

// A book that wasn't made knows no instance: nothing of it can be turned but the clock.
func TestOfNoBook(t *testing.T) {
	var b Book
	stands := func() bool {
		return len(b.List()) == 0 && len(b.Tours()) == 0 && plan.Same(b.Plan(), plan.Plan{}) && inst.Same(b.Instance(), api.Instance{}) && b.State(0) == Free && b.State(1) == Free
	}
	if b.Add(0) != api.ErrNone || b.Add(1) != api.ErrNone || b.Cancel(1) != api.ErrNone || b.Commit(nil) != api.ErrArg || b.Commit(rows([]int{0, 1})) != api.ErrArg || b.Tick(3) != api.OK || !stands() {
		t.Errorf("%+v", b)
	}
}
