package slack

import (
	"math"
	"math/big"
	"math/rand/v2"
	"slices"
	"testing"

	"jitney/api"
	"jitney/inst"
	"jitney/rule"
	"jitney/seqn"
)

// one is one request from 0 to 3+4i, with a service of 1 at both stops.
func one(ride int64) api.Instance {
	return api.Instance{
		Cars:  []api.Car{{Cap: api.Load{Seats: 1}, Max: 100}, {Cap: api.Load{Seats: 1}, Max: 9}, {Max: 100}},
		Stops: []api.Stop{{Late: 100}, {Load: api.Load{Seats: 1}, Service: 1, Late: 50}, {Load: api.Load{Seats: -1}, Service: 1, Late: 90, Spot: 3 + 4i}, {Late: 100}},
		Rides: []int64{ride},
	}
}

// many is requests at one and the same place, without services, which may ride as long as that: each time is what the windows make it.
func many(rides ...int64) api.Instance {
	n := len(rides)
	x := api.Instance{Cars: []api.Car{{Cap: api.Load{Seats: n}, Max: 1000}}, Rides: rides, Stops: make([]api.Stop, 2*n+2)}
	for i := range x.Stops {
		x.Stops[i].Late = 1000
		if i > 0 && i <= 2*n {
			x.Stops[i].Load.Seats = 1 - (i-1)/n*2
		}
	}
	return x
}

func same(a, b Pass) bool {
	return slices.Equal(a.Times, b.Times) && slices.Equal(a.Waits, b.Waits) && a.Length == b.Length && a.Window == b.Window && a.Ride == b.Ride
}

func tellRun(t *testing.T, name string, x api.Instance, seq []int, clock int64, want Pass) {
	t.Helper()
	if got, e := Run(x, 0, seq, clock); e != api.OK || !same(got, want) {
		t.Errorf("%s: %+v, %d, not %+v", name, got, e, want)
	}
}

// P11.1: the eight steps of one request, reckoned by hand.
func TestRunOfOneRequest(t *testing.T) {
	seq := []int{0, 1, 2, 3}
	for _, c := range []struct {
		name  string
		ride  int64
		turn  func(x *api.Instance)
		clock int64
		want  Pass
	}{
		{"nothing to wait for", 20, func(x *api.Instance) {}, 0, Pass{Times: []int64{0, 0, 6, 12}, Waits: []int64{0, 0, 0, 0}}},
		{"the pickup opens late: the car starts late", 20, func(x *api.Instance) { x.Stops[1].Early = 5 }, 0, Pass{Times: []int64{5, 5, 11, 17}, Waits: []int64{0, 0, 0, 0}}},
		{"the clock is later than some stops open", 20, func(x *api.Instance) { x.Stops[1].Early = 5 }, 4, Pass{Times: []int64{5, 5, 11, 17}, Waits: []int64{0, 0, 0, 0}}},
		{"the depot opens later than the clock", 20, func(x *api.Instance) { x.Stops[0].Early = 9 }, 4, Pass{Times: []int64{9, 9, 15, 21}, Waits: []int64{0, 0, 0, 0}}},
		{"waits of two stops", 20, func(x *api.Instance) { x.Stops[1].Early, x.Stops[2].Early = 5, 20 }, 0, Pass{Times: []int64{14, 14, 20, 26}, Waits: []int64{0, 0, 0, 0}}},
		{"who starts later is back no earlier for a wait at the end", 20, func(x *api.Instance) { x.Stops[3].Early = 90 }, 0, Pass{Times: []int64{0, 0, 6, 90}, Waits: []int64{0, 0, 0, 78}}},
		{"the start's Late bounds its slack", 20, func(x *api.Instance) { x.Stops[0].Late, x.Stops[1].Early = 3, 5 }, 0, Pass{Times: []int64{3, 5, 11, 17}, Waits: []int64{0, 2, 0, 0}}},
		{"the pickup's Late does, and the ride isn't too long", 20, func(x *api.Instance) { x.Stops[1].Late, x.Stops[2].Early = 4, 20 }, 0, Pass{Times: []int64{4, 4, 20, 26}, Waits: []int64{0, 0, 10, 0}}},
		{"the Ride does, for one who isn't on board yet", 9, func(x *api.Instance) { x.Stops[1].Early, x.Stops[2].Late = 30, 100 }, 0, Pass{Times: []int64{30, 30, 36, 42}, Waits: []int64{0, 0, 0, 0}}},
		{"the pickup waits, till the ride is short enough", 5, func(x *api.Instance) { x.Stops[0].Late, x.Stops[2].Early = 3, 20 }, 0, Pass{Times: []int64{3, 14, 20, 26}, Waits: []int64{0, 11, 0, 0}}},
		{"no more than its Late", 5, func(x *api.Instance) { x.Stops[0].Late, x.Stops[1].Late, x.Stops[2].Early = 3, 10, 20 }, 0, Pass{Times: []int64{3, 10, 20, 26}, Waits: []int64{0, 7, 4, 0}, Ride: 4}},
		{"a ride that is too long whatever waits", 4, func(x *api.Instance) {}, 0, Pass{Times: []int64{0, 0, 6, 12}, Waits: []int64{0, 0, 0, 0}, Ride: 1}},
		{"a clock behind a Late", 20, func(x *api.Instance) {}, 60, Pass{Times: []int64{60, 60, 66, 72}, Waits: []int64{0, 0, 0, 0}, Window: 10}},
		{"a clock behind all Lates", 20, func(x *api.Instance) {}, 1000, Pass{Times: []int64{1000, 1000, 1006, 1012}, Waits: []int64{0, 0, 0, 0}, Window: 900 + 950 + 916 + 912}},
		{"nothing is left ahead of a wait", 20, func(x *api.Instance) { x.Stops[0].Late, x.Stops[2].Early = 2, 66 }, 60, Pass{Times: []int64{60, 60, 66, 72}, Waits: []int64{0, 0, 0, 0}, Window: 58 + 10}},
		{"a wait behind a Late that is broken can be had", 20, func(x *api.Instance) { x.Stops[1].Early, x.Stops[2].Late = 5, 8 }, 0, Pass{Times: []int64{5, 5, 11, 17}, Waits: []int64{0, 0, 0, 0}, Window: 3}},
		{"the car's Max", 90, func(x *api.Instance) { x.Stops[2].Early, x.Cars[0].Max = 60, 11 }, 0, Pass{Times: []int64{50, 50, 60, 66}, Waits: []int64{0, 0, 4, 0}, Length: 5}},
		{"just the car's Max", 90, func(x *api.Instance) { x.Stops[2].Early, x.Cars[0].Max = 60, 16 }, 0, Pass{Times: []int64{50, 50, 60, 66}, Waits: []int64{0, 0, 4, 0}}},
		{"all at once", 2, func(x *api.Instance) { x.Stops[1].Late, x.Stops[2].Late, x.Cars[0].Max = 0, 1, 3 }, 0, Pass{Times: []int64{0, 0, 6, 12}, Waits: []int64{0, 0, 0, 0}, Length: 9, Window: 5, Ride: 3}},
	} {
		x := one(c.ride)
		c.turn(&x)
		tellRun(t, c.name, x, seq, c.clock, c.want)
		if got, _ := Run(x, 0, seq, c.clock); Clean(got) != (c.want.Length == 0 && c.want.Window == 0 && c.want.Ride == 0) {
			t.Errorf("%s: Clean is %v", c.name, Clean(got))
		}
	}
}

// P11.1: the row of both depots, for each car, and at the clock's bounds.
func TestRunOfNobody(t *testing.T) {
	x := one(20)
	x.Stops[3].Early = 95
	for car, most := range []int64{100, 9, 100} {
		for _, c := range []struct{ clock, wait, window int64 }{{0, 95, 0}, {95, 0, 0}, {100, 0, 0}, {101, 0, 2}, {api.MaxTime, 0, 2*api.MaxTime - 200}} {
			want := Pass{Times: []int64{c.clock, c.clock + c.wait}, Waits: []int64{0, c.wait}, Length: max(0, c.wait-most), Window: c.window}
			if got, e := Run(x, car, []int{0, 3}, c.clock); e != api.OK || !same(got, want) {
				t.Errorf("car %d, clock %d: %+v, %d, not %+v", car, c.clock, got, e, want)
			}
		}
	}
}

// P11.1: steps 6 and 7 of two requests and more, reckoned by hand.
func TestStepSeven(t *testing.T) {
	seq := []int{0, 1, 3, 2, 4, 5}
	x := many(10, 10)
	x.Stops[0].Late, x.Stops[3].Early, x.Stops[4].Early = 0, 50, 100
	tellRun(t, "each ride is mended in turn", x, seq, 0,
		Pass{Times: []int64{0, 60, 60, 100, 100, 100}, Waits: []int64{0, 60, 0, 40, 0, 0}})
	x.Rides[1] = 40
	tellRun(t, "what is left isn't too long: the second pickup doesn't wait", x, seq, 0,
		Pass{Times: []int64{0, 60, 60, 60, 100, 100}, Waits: []int64{0, 60, 0, 0, 40, 0}})
	x.Stops[1].Late, x.Stops[2].Late = 8, 95
	tellRun(t, "one that isn't mended, and one that is", x, seq, 0,
		Pass{Times: []int64{0, 8, 50, 95, 100, 100}, Waits: []int64{0, 8, 42, 45, 5, 0}, Ride: 32})

	x = many(10, 10, 60)
	x.Stops[0].Late, x.Stops[1].Late, x.Stops[4].Early, x.Stops[6].Early = 0, 8, 50, 100
	tellRun(t, "a ride that is over can't be mended, so the third pickup doesn't wait", x, []int{0, 1, 4, 2, 5, 3, 6, 7}, 0,
		Pass{Times: []int64{0, 8, 50, 60, 60, 60, 100, 100}, Waits: []int64{0, 8, 42, 10, 0, 0, 40, 0}, Ride: 32})

	x = many(60, 10)
	x.Stops[0].Late, x.Stops[1].Late, x.Stops[4].Early = 0, 5, 50
	tellRun(t, "one who is on board bounds what the next pickup waits, by what is left of the ride", x, []int{0, 1, 2, 3, 4, 5}, 0,
		Pass{Times: []int64{0, 5, 50, 50, 50, 50}, Waits: []int64{0, 5, 45, 0, 0, 0}})
	x.Rides[0] = 25
	tellRun(t, "and so the wait is split", x, []int{0, 1, 2, 3, 4, 5}, 0,
		Pass{Times: []int64{0, 5, 30, 30, 50, 50}, Waits: []int64{0, 5, 25, 0, 20, 0}, Ride: 10})
	x.Rides[0] = 4
	x.Stops[2].Early = 11
	tellRun(t, "of one who rides for too long already nothing is left", x, []int{0, 1, 2, 3, 4, 5}, 0,
		Pass{Times: []int64{0, 5, 11, 11, 50, 50}, Waits: []int64{0, 5, 6, 0, 39, 0}, Ride: 2 + 29})
}

// P11.1: the start's slack is bounded by the Ride of one who isn't on board yet, though who starts later would ride no longer.
func TestSlackOfTheStart(t *testing.T) {
	x := many(7, 10)
	x.Stops[2].Early = 50
	tellRun(t, "a Ride ahead of the wait", x, []int{0, 1, 3, 2, 4, 5}, 0,
		Pass{Times: []int64{7, 7, 7, 50, 50, 50}, Waits: []int64{0, 0, 0, 43, 0, 0}})
	tellRun(t, "a Ride behind the wait", x, []int{0, 2, 4, 1, 3, 5}, 0,
		Pass{Times: []int64{50, 50, 50, 50, 50, 50}, Waits: []int64{0, 0, 0, 0, 0, 0}})
	x.Stops[3].Early, x.Stops[2].Early = 5, 50
	tellRun(t, "waits ahead of both", x, []int{0, 1, 3, 2, 4, 5}, 0,
		Pass{Times: []int64{12, 12, 12, 50, 50, 50}, Waits: []int64{0, 0, 0, 38, 0, 0}})
}

// asked is a row, of which steps are said as the chapter says them, each sum and each ride anew.
type asked struct {
	x     api.Instance
	seq   []int
	clock int64
	b, w  []int64
}

func (a *asked) floor(i int) int64 {
	return max(a.x.Stops[a.seq[i]].Early, a.clock)
}

func (a *asked) goOn(from int) {
	for i := from; i < len(a.seq); i++ {
		ready := a.b[i-1] + a.x.Stops[a.seq[i-1]].Service + inst.Travel(a.x, a.seq[i-1], a.seq[i])
		a.b[i], a.w[i] = ready, 0
		if a.floor(i) > ready {
			a.b[i], a.w[i] = a.floor(i), a.floor(i)-ready
		}
	}
}

func (a *asked) sum(behind, ahead int) int64 {
	var sum int64
	for i := behind + 1; i < ahead; i++ {
		sum += a.w[i]
	}
	return sum
}

// ride is the place of a request's pickup and of its drop, and how long it rides.
func (a *asked) ride(request int) (int, int, int64) {
	pick, drop := slices.Index(a.seq, request), slices.Index(a.seq, request+len(a.x.Rides))
	return pick, drop, a.b[drop] - a.b[pick] - a.x.Stops[request].Service
}

func (a *asked) slack(i int) int64 {
	var all []int64
	for j := i; j < len(a.seq); j++ {
		left, n := a.x.Stops[a.seq[j]].Late-a.b[j], len(a.x.Rides)
		if request := a.seq[j] - n; request > 0 && request <= n {
			pick, _, ride := a.ride(request)
			room := a.x.Rides[request-1]
			if pick < i {
				room -= ride
			}
			left = min(left, room)
		}
		all = append(all, a.sum(i, j+1)+max(0, left))
	}
	return slices.Min(all)
}

func (a *asked) tooLong(behind int) bool {
	for request, most := range a.x.Rides {
		if slices.Contains(a.seq, request+1) {
			if _, drop, ride := a.ride(request + 1); drop > behind && ride > most {
				return true
			}
		}
	}
	return false
}

// ends is how the steps came to their end.
type ends int

const (
	atSix ends = iota
	early
	late
)

// told is what Run must tell, and how it ends.
func told(x api.Instance, car int, seq []int, clock int64) (Pass, ends) {
	m := len(seq) - 1
	a := &asked{x, seq, clock, make([]int64, m+1), make([]int64, m+1)}
	a.b[0] = a.floor(0)
	a.goOn(1)
	a.b[0] = a.floor(0) + min(a.slack(0), a.sum(0, m))
	a.goOn(1)
	way := atSix
	if a.tooLong(0) {
		way = late
		for j, stop := range seq {
			if stop < 1 || stop > len(x.Rides) {
				continue
			}
			more := min(a.slack(j), a.sum(j, m))
			a.b[j] += more
			a.w[j] += more
			a.goOn(j + 1)
			if !a.tooLong(j) {
				if slices.ContainsFunc(seq[j+1:], func(s int) bool { return s >= 1 && s <= len(x.Rides) }) {
					way = early
				}
				break
			}
		}
	}
	return Pass{a.b, a.w, max(0, a.b[m]-a.b[0]-x.Cars[car].Max), a.window(), a.rides()}, way
}

func (a *asked) window() int64 {
	sum := new(big.Int)
	for i, stop := range a.seq {
		sum.Add(sum, big.NewInt(max(0, a.b[i]-a.x.Stops[stop].Late)))
	}
	if !sum.IsInt64() {
		return math.MaxInt64
	}
	return sum.Int64()
}

func (a *asked) rides() int64 {
	var sum int64
	for _, stop := range a.seq {
		if stop >= 1 && stop <= len(a.x.Rides) {
			_, _, ride := a.ride(stop)
			sum += max(0, ride-a.x.Rides[stop-1])
		}
	}
	return sum
}

// drawn is a right instance of up to so many requests, and a row that its car 1 can go by.
func drawn(draws *rand.Rand, most int) (api.Instance, []int) {
	n := draws.IntN(most + 1)
	x := api.Instance{Cars: []api.Car{{}, {Cap: api.Load{Seats: 1000}, Max: 5 + draws.Int64N(60)}}, Stops: make([]api.Stop, 2*n+2)}
	day, tight := 1+draws.Int64N(60), 1+draws.Int64N(40)
	for i := range x.Stops {
		s := api.Stop{Early: draws.Int64N(day), Spot: complex(float64(draws.IntN(4)), float64(draws.IntN(4)))}
		s.Late = s.Early + draws.Int64N(tight)
		if i > 0 && i <= 2*n {
			s.Service = draws.Int64N(3)
			s.Load.Seats = 1 - (i-1)/n*2
		}
		x.Stops[i] = s
	}
	for range n {
		x.Rides = append(x.Rides, draws.Int64N(30))
	}
	if draws.IntN(2) == 0 {
		for range x.Stops {
			times := make([]int64, len(x.Stops))
			for j := range times {
				times[j] = draws.Int64N(4)
			}
			x.Matrix = append(x.Matrix, times)
		}
	}
	seq := seqn.Empty(x)
	for _, i := range draws.Perm(n)[:n-draws.IntN(n+1)/2] {
		a := 1 + draws.IntN(len(seq)-1)
		seq = seqn.With(x, seq, i+1, a, a+1+draws.IntN(len(seq)-a))
	}
	return x, seq
}

// tellPass holds a pass against P11.2: floors, waits, and layer 10.
func tellPass(t *testing.T, x api.Instance, seq []int, clock int64, p Pass) {
	t.Helper()
	for i, stop := range seq {
		if p.Times[i] < max(clock, x.Stops[stop].Early) || p.Waits[i] < 0 {
			t.Fatalf("%v, clock %d: %+v: stop %d begins before its floor", seq, clock, p, i)
		}
		if i == 0 {
			continue
		}
		if p.Times[i] != p.Times[i-1]+x.Stops[seq[i-1]].Service+inst.Travel(x, seq[i-1], stop)+p.Waits[i] {
			t.Fatalf("%v, clock %d: %+v: stop %d, where the car isn't", seq, clock, p, i)
		}
	}
	if p.Waits[0] != 0 {
		t.Fatalf("%v, clock %d: %+v: a wait at the start", seq, clock, p)
	}
	if hold := rule.Hold(x, 1, seq, clock, nil, p.Times); hold != Clean(p) {
		t.Fatalf("%v, clock %d: %+v: Clean is %v, they hold: %v", seq, clock, p, Clean(p), hold)
	}
}

// P11.1, P11.2: drawn rows, with all ways in which the steps end, and all that can be broken.
func TestRunOfDrawnRows(t *testing.T) {
	draws := rand.New(rand.NewPCG(5, 6))
	met := map[ends]int{}
	var clean, length, window, ride int
	for range 20000 {
		x, seq := drawn(draws, 6)
		clock := draws.Int64N(50)
		want, way := told(x, 1, seq, clock)
		got, e := Run(x, 1, seq, clock)
		if e != api.OK || !same(got, want) {
			t.Fatalf("%+v, %v, clock %d: %+v, %d, not %+v", x, seq, clock, got, e, want)
		}
		tellPass(t, x, seq, clock, got)
		met[way]++
		for _, c := range []struct {
			is   bool
			many *int
		}{{Clean(got), &clean}, {got.Length > 0, &length}, {got.Window > 0, &window}, {got.Ride > 0, &ride}} {
			if c.is {
				*c.many++
			}
		}
	}
	if min(met[atSix], met[early], met[late], clean, length, window, ride) < 500 {
		t.Errorf("hardly asked: %v, %d, %d, %d, %d", met, clean, length, window, ride)
	}
}

// longest is the longest row, by which one after the other is driven, or all at once.
func longest(at int64, together bool) (api.Instance, []int) {
	n := api.MaxStops/2 - 1
	x := api.Instance{Cars: []api.Car{{}, {Cap: api.Load{Seats: 1000}, Max: at}}, Stops: make([]api.Stop, 2*n+2), Rides: slices.Repeat([]int64{0}, n)}
	times := slices.Repeat([]int64{at}, 2*n+2)
	seq := []int{0}
	for i := range x.Stops {
		x.Stops[i].Service = at
		x.Matrix = append(x.Matrix, times)
		switch {
		case i < n && !together:
			seq = append(seq, i+1, n+i+1)
		case i < 2*n && together:
			seq = append(seq, i+1)
		}
	}
	x.Stops[0].Service, x.Stops[2*n+1].Service = 0, 0
	return x, append(seq, 2*n+1)
}

// P11.1, P11.2: the longest row, with the greatest times: no sum goes round, and what is broken by more than can be told is broken.
func TestRunOfTheLongestRow(t *testing.T) {
	for _, together := range []bool{false, true} {
		x, seq := longest(api.MaxTime, together)
		p, e := Run(x, 1, seq, api.MaxTime)
		if e != api.OK || len(p.Times) != api.MaxStops || len(p.Waits) != api.MaxStops {
			t.Fatalf("%d: %d times", e, len(p.Times))
		}
		a := &asked{x: x, seq: seq, clock: api.MaxTime, b: p.Times, w: p.Waits}
		for i, time := range p.Times {
			if want := api.MaxTime * int64(max(1, 2*i)); time != want || p.Waits[i] != 0 {
				t.Fatalf("stop %d: %d, %d, not %d", i, time, p.Waits[i], want)
			}
		}
		if p.Length != p.Times[api.MaxStops-1]-2*api.MaxTime || p.Window != math.MaxInt64 || p.Window != a.window() || p.Ride != a.rides() || Clean(p) {
			t.Errorf("%d, %d, %d", p.Length, p.Window, p.Ride)
		}
	}
}

// P11.1: the longest row with a wait that all pickups share out.
func TestLongWaits(t *testing.T) {
	x, seq := longest(0, false)
	last := len(seq) - 1
	for i := range x.Stops {
		x.Stops[i].Late = api.MaxTime
	}
	x.Stops[0].Late = 0
	x.Stops[seq[last-1]].Early = api.MaxTime
	p, e := Run(x, 1, seq, 0)
	if e != api.OK || p.Ride != 0 || p.Length != api.MaxTime {
		t.Fatalf("%d: %d, %d", e, p.Ride, p.Length)
	}
	tellPass(t, x, seq, 0, p)
	x.Cars[1].Max = api.MaxTime
	if p, _ := Run(x, 1, seq, 0); !Clean(p) || p.Times[last-2] != api.MaxTime || p.Times[last-3] != 0 {
		t.Errorf("%d, %d", p.Times[last-2], p.Times[last-3])
	}
}

// P11.1: layer 9's errors, then the clock's; with nothing.
func TestErrors(t *testing.T) {
	type call struct {
		x   api.Instance
		car int
		seq []int
	}
	fine := call{one(20), 0, []int{0, 1, 2, 3}}
	wrong := one(20)
	wrong.Rides[0] = -1
	clocks := []int64{-1, api.MaxTime + 1, math.MinInt64, math.MaxInt64}
	for _, c := range []struct {
		call call
		want api.Errno
	}{
		{call{wrong, 0, fine.seq}, api.ErrArg}, {call{api.Instance{}, 0, fine.seq}, api.ErrArg}, {call{fine.x, 3, fine.seq}, api.ErrArg}, {call{fine.x, -1, fine.seq}, api.ErrArg}, {call{fine.x, math.MaxInt, nil}, api.ErrArg},
		{call{fine.x, 0, nil}, api.ErrDepot}, {call{fine.x, 0, []int{}}, api.ErrDepot}, {call{fine.x, 0, []int{0}}, api.ErrDepot}, {call{fine.x, 0, []int{0, 1, 2}}, api.ErrDepot},
		{call{fine.x, 0, []int{0, 1, 1, 3}}, api.ErrNode}, {call{fine.x, 0, []int{0, 9, 3}}, api.ErrNode}, {call{fine.x, 0, []int{0, math.MinInt, 3}}, api.ErrNode},
		{call{fine.x, 0, []int{0, 2, 1, 3}}, api.ErrPair}, {call{fine.x, 0, []int{0, 1, 3}}, api.ErrPair}, {call{fine.x, 2, fine.seq}, api.ErrLoad}, {fine, api.OK},
	} {
		for _, clock := range append([]int64{0, 1, api.MaxTime}, clocks...) {
			want := c.want
			if want == api.OK && slices.Contains(clocks, clock) {
				want = api.ErrRange
			}
			p, e := Run(c.call.x, c.call.car, c.call.seq, clock)
			if e != want || e != api.OK && !(p.Times == nil && p.Waits == nil && same(p, Pass{})) {
				t.Errorf("car %d, row %v, clock %d: %+v, %d, not %d", c.call.car, c.call.seq, clock, p, e, want)
			}
		}
	}
}

// P11.1: Clean asks what is broken alone.
func TestClean(t *testing.T) {
	for _, p := range []Pass{{}, {Times: []int64{3}, Waits: []int64{4}}} {
		if !Clean(p) {
			t.Errorf("%+v isn't clean", p)
		}
		for _, by := range []int64{1, api.MaxTime, math.MaxInt64} {
			length, window, ride := p, p, p
			length.Length, window.Window, ride.Ride = by, by, by
			if Clean(length) || Clean(window) || Clean(ride) {
				t.Errorf("%+v by %d: clean", p, by)
			}
		}
	}
}

// What is handed in stays as it is, and what is answered is new memory.
func TestWhatIsHandedInStays(t *testing.T) {
	x, kept := one(5), one(5)
	x.Stops[2].Early, kept.Stops[2].Early = 70, 70
	seq := []int{0, 1, 2, 3, 9}
	first, _ := Run(x, 0, seq[:4], 0)
	second, _ := Run(x, 0, seq[:4], 0)
	if !inst.Same(x, kept) || !slices.Equal(seq, []int{0, 1, 2, 3, 9}) || !same(first, second) {
		t.Error("what is handed in is changed")
	}
	want := Pass{slices.Clone(second.Times), slices.Clone(second.Waits), second.Length, second.Window, second.Ride}
	clear(first.Times[:cap(first.Times)])
	clear(seq)
	if !same(second, want) || !slices.Equal(first.Waits[:cap(first.Waits)], second.Waits[:cap(second.Waits)]) {
		t.Error("what is answered is changed")
	}
}
