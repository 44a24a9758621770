package sched

import (
	"math"
	"math/rand/v2"
	"reflect"
	"slices"
	"testing"

	"jitney/api"
	"jitney/inst"
	"jitney/proof"
	"jitney/rule"
	"jitney/seqn"
	"jitney/slack"
)

// one is one request from 0 to 3+4i, with a service of 1 at both stops.
func one(ride int64) api.Instance {
	return api.Instance{
		Cars:  []api.Car{{Cap: api.Load{Seats: 1}, Max: 100}, {Max: 100}},
		Stops: []api.Stop{{Late: 100}, {Load: api.Load{Seats: 1}, Service: 1, Late: 50}, {Load: api.Load{Seats: -1}, Service: 1, Late: 90, Spot: 3 + 4i}, {Late: 100}},
		Rides: []int64{ride},
	}
}

// two is two requests at one place, without services: the second one can't be fetched till 50.
func two() api.Instance {
	x := api.Instance{Cars: []api.Car{{Cap: api.Load{Seats: 2}, Max: 1000}}, Rides: []int64{7, 10}, Stops: make([]api.Stop, 6)}
	for i, seats := range []int{0, 1, 1, -1, -1, 0} {
		x.Stops[i] = api.Stop{Load: api.Load{Seats: seats}, Late: 1000}
	}
	x.Stops[2].Early = 50
	return x
}

// call is what Plan is handed.
type call struct {
	x     api.Instance
	car   int
	seq   []int
	clock int64
	pins  []api.Pin
}

func (c call) plan() (Result, api.Errno) {
	return Plan(c.x, c.car, c.seq, c.clock, c.pins)
}

// tell holds what Plan and Can tell of a row that a car can go by against P12.1, and against what layers 8, 10 and 11 tell.
func tell(t *testing.T, c call) (Result, api.Errno) {
	t.Helper()
	r, e := c.plan()
	rules, wrong := rule.Rules(c.x, c.car, c.seq, c.clock, c.pins)
	if wrong != api.OK {
		t.Fatalf("%+v: %d", c, wrong)
	}
	edges, n := rule.Edges(rules), len(c.seq)+1
	if !slices.Equal(r.Rules, rules) || !proof.Check(n, edges, 0, n-2, r.Answer) || Can(c.x, c.car, c.seq, c.clock, c.pins) != (e == api.OK) {
		t.Fatalf("%+v: %+v, %d: the rules, the answer, or Can", c, r, e)
	}
	if least, _ := proof.Least(n, edges, 0, n-2); !reflect.DeepEqual(r.Answer, least) {
		t.Fatalf("%+v: %+v isn't layer 8's %+v", c, r.Answer, least)
	}
	if e == api.ErrTime {
		sum, ok := proof.Cycle(edges, r.Answer.Cycle)
		if !ok || sum >= 0 || len(r.Answer.X) != 0 || len(r.Answer.Chain) != 0 || len(r.Times) != 0 || r.Length != 0 || r.Fast {
			t.Fatalf("%+v: no times, but %+v", c, r)
		}
		return r, e
	}
	sum, ok := proof.Chain(edges, r.Answer.Chain, n-2, 0)
	if e != api.OK || len(r.Answer.Cycle) != 0 || !ok || sum != -r.Length || r.Times[n-2]-r.Times[0] != r.Length || !rule.Hold(c.x, c.car, c.seq, c.clock, c.pins, r.Times) {
		t.Fatalf("%+v: %+v, %d", c, r, e)
	}
	tellFast(t, c, r)
	return r, e
}

// tellFast tells whether the times are the eight steps', just where they are to be.
func tellFast(t *testing.T, c call, r Result) {
	t.Helper()
	pass, _ := slack.Run(c.x, c.car, c.seq, c.clock)
	last := len(c.seq) - 1
	fast := len(c.pins) == 0 && slack.Clean(pass) && pass.Times[last]-pass.Times[0] == r.Length
	times := r.Answer.X[:last+1]
	if fast {
		times = pass.Times
	}
	if r.Fast != fast || !slices.Equal(r.Times, times) {
		t.Fatalf("%+v: %+v, %v, not %v, %v", c, r.Times, r.Fast, times, fast)
	}
}

// P12.1: rows of one request and of two, reckoned by hand.
func TestPlanByHand(t *testing.T) {
	seq, both := []int{0, 1, 2, 3}, []int{0, 1, 3, 2, 4, 5}
	for _, c := range []struct {
		name   string
		call   call
		turn   func(x *api.Instance)
		times  []int64
		length int64
		fast   bool
	}{
		{"the example", call{one(20), 0, seq, 0, nil}, nil, []int64{0, 0, 6, 12}, 12, true},
		{"later", call{one(20), 0, seq, 17, []api.Pin{}}, nil, []int64{17, 17, 23, 29}, 12, true},
		{"a wait that can be left out", call{one(20), 0, seq, 0, nil}, func(x *api.Instance) { x.Stops[2].Early = 20 }, []int64{14, 14, 20, 26}, 12, true},
		{"a wait that can't", call{one(20), 0, seq, 0, nil}, func(x *api.Instance) { x.Stops[1].Late, x.Stops[2].Early = 4, 20 }, []int64{4, 4, 20, 26}, 22, true},
		{"a pin, by which all is driven later", call{one(20), 0, seq, 9, []api.Pin{{At: 0, Time: 2}}}, nil, []int64{2, 9, 15, 21}, 19, false},
		{"pins at the times that would be", call{one(20), 0, seq, 0, []api.Pin{{At: 0, Time: 0}, {At: 1, Time: 0}}}, nil, []int64{0, 0, 6, 12}, 12, false},
		{"a pin behind a Late", call{one(20), 0, seq, 0, []api.Pin{{At: 1, Time: 60}}}, nil, []int64{60, 60, 66, 72}, 12, false},
		{"as much as may be", call{one(5), 0, seq, 0, nil}, func(x *api.Instance) { x.Cars[0].Max = 12 }, []int64{0, 0, 6, 12}, 12, true},
		{"clean steps that aren't the shortest", call{two(), 0, both, 0, nil}, nil, []int64{50, 50, 50, 50, 50, 50}, 0, false},
		{"steps that are for too long", call{two(), 0, both, 0, nil}, func(x *api.Instance) { x.Cars[0].Max = 0 }, []int64{50, 50, 50, 50, 50, 50}, 0, false},
		{"steps that are as short as can be, with a ride that is too long", call{two(), 0, []int{0, 1, 2, 4, 3, 5}, 0, nil}, func(x *api.Instance) {
			x.Stops[0].Late, x.Stops[2].Early, x.Stops[3].Early, x.Rides[0], x.Rides[1] = 0, 0, 50, 5, 3
		}, []int64{0, 50, 50, 50, 50, 50}, 50, false},
		{"nobody", call{one(20), 1, []int{0, 3}, 99, nil}, nil, []int64{99, 99}, 0, true},
	} {
		if c.turn != nil {
			c.turn(&c.call.x)
		}
		r, e := tell(t, c.call)
		if e != api.OK || r.Length != c.length || r.Fast != c.fast || !slices.Equal(r.Times, c.times) {
			t.Errorf("%s: %+v, %d", c.name, r, e)
		}
	}
}

// P12.1: what can't be, and the rules that prove it.
func TestNoTimesByHand(t *testing.T) {
	seq := []int{0, 1, 2, 3}
	for _, c := range []struct {
		name  string
		ride  int64
		turn  func(x *api.Instance)
		clock int64
		pins  []api.Pin
		why   []string
	}{
		{"a ride that is too long", 4, func(x *api.Instance) {}, 0, nil, []string{"ride 1 2", "travel 1 2"}},
		{"a day that is too long", 20, func(x *api.Instance) { x.Cars[0].Max = 11 }, 0, nil, []string{"length 0 3", "travel 0 1", "travel 1 2", "travel 2 3"}},
		{"a clock behind a Late", 20, func(x *api.Instance) { x.Stops[0].Late = 40 }, 45, nil, []string{"early 0 0", "late 0 0"}},
		{"no way to be there in time", 20, func(x *api.Instance) { x.Stops[1].Early, x.Stops[2].Late = 50, 55 }, 0, nil, []string{"early 1 1", "late 2 2", "travel 1 2"}},
		{"pins too near", 20, func(x *api.Instance) {}, 0, []api.Pin{{At: 1, Time: 3}, {At: 2, Time: 8}}, []string{"pinned 1 1", "pinned 2 2", "travel 1 2"}},
	} {
		x := one(c.ride)
		c.turn(&x)
		r, e := tell(t, call{x, 0, seq, c.clock, c.pins})
		why := Why(r)
		slices.Sort(why)
		if e != api.ErrTime || !slices.Equal(why, c.why) {
			t.Errorf("%s: %d, %q", c.name, e, why)
		}
	}
}

// drawn is a right instance of up to so many requests, and a row that its car 1 can go by.
func drawn(draws *rand.Rand, most int, day int64) call {
	n := draws.IntN(most + 1)
	x := api.Instance{Cars: []api.Car{{}, {Cap: api.Load{Seats: 1000}, Max: draws.Int64N(3 * day)}}, Stops: make([]api.Stop, 2*n+2)}
	for i := range x.Stops {
		s := api.Stop{Early: draws.Int64N(day), Late: day}
		if draws.IntN(3) == 0 {
			s.Late = min(day, s.Early+draws.Int64N(day))
		}
		if i > 0 && i <= 2*n {
			s.Service = draws.Int64N(2)
			s.Load.Seats = 1 - (i-1)/n*2
		}
		x.Stops[i] = s
		x.Matrix = append(x.Matrix, make([]int64, 2*n+2))
		for j := range x.Matrix[i] {
			x.Matrix[i][j] = draws.Int64N(3)
		}
	}
	for range n {
		x.Rides = append(x.Rides, draws.Int64N(day))
	}
	seq := seqn.Empty(x)
	for _, i := range draws.Perm(n)[:n-draws.IntN(n+1)/2] {
		a := 1 + draws.IntN(len(seq)-1)
		seq = seqn.With(x, seq, i+1, a, a+1+draws.IntN(len(seq)-a))
	}
	return call{x: x, car: 1, seq: seq}
}

// shortest is how long the car is out at least, of all times up to some bound, and whether any hold: asked of each alone, without edges.
func shortest(c call, bound int64) (int64, bool) {
	least, times := int64(math.MaxInt64), make([]int64, len(c.seq))
	last := len(times) - 1
	var from func(at int, low int64)
	from = func(at int, low int64) {
		if at > last {
			if length := times[last] - times[0]; length < least && rule.Hold(c.x, c.car, c.seq, c.clock, c.pins, times) {
				least = length
			}
			return
		}
		for times[at] = low; times[at] <= bound; times[at]++ {
			from(at+1, times[at])
		}
	}
	from(0, 0)
	return least, least < math.MaxInt64
}

// P12.1, P3: of small rows, all times are gone through.
func TestPlanOfAllSmallTimes(t *testing.T) {
	draws := rand.New(rand.NewPCG(7, 8))
	found := map[bool]int{}
	for range 700 {
		c := drawn(draws, 2, 8)
		c.clock = draws.Int64N(5)
		for _, at := range draws.Perm(len(c.seq))[:draws.IntN(3)] {
			c.pins = append(c.pins, api.Pin{At: at, Time: draws.Int64N(10)})
		}
		r, e := tell(t, c)
		length, ok := shortest(c, 9)
		if ok != (e == api.OK) || ok && r.Length != length {
			t.Fatalf("%+v: %+v, %d, but %d, %v", c, r, e, length, ok)
		}
		found[ok]++
	}
	if min(found[true], found[false]) < 100 {
		t.Errorf("hardly asked: %v", found)
	}
}

// tellLater tells whether it is longer with a later clock, which never makes it shorter (P12.2).
func tellLater(t *testing.T, c call, length int64, e api.Errno, clock int64) bool {
	t.Helper()
	c.clock = clock
	r, late := tell(t, c)
	if late == api.OK && (e != api.OK || r.Length < length) {
		t.Fatalf("%+v: %+v, ahead of that clock %d, %d", c, r, length, e)
	}
	return late == api.OK && r.Length > length
}

// P12.1, P12.2: longer rows; with pins at the times that are told it is as long, and a later clock never makes it shorter.
func TestPlanOfDrawnRows(t *testing.T) {
	draws := rand.New(rand.NewPCG(9, 10))
	var fast, broken, clean, none, longer int
	for range 8000 {
		c := drawn(draws, 5, 40)
		c.clock = draws.Int64N(8)
		r, e := tell(t, c)
		tellLater(t, c, r.Length, e, c.clock+draws.Int64N(12))
		pass, _ := slack.Run(c.x, c.car, c.seq, c.clock)
		switch {
		case e != api.OK:
			none++
			continue
		case r.Fast:
			fast++
		case slack.Clean(pass):
			clean++
		default:
			broken++
		}
		for _, places := range [][]int{draws.Perm(len(c.seq)), draws.Perm(len(c.seq))[:draws.IntN(len(c.seq))], {0}, {1, 0}} {
			pinned := c
			for _, at := range places {
				pinned.pins = append(pinned.pins, api.Pin{At: at, Time: r.Times[at]})
			}
			again, e := tell(t, pinned)
			if e != api.OK || again.Length != r.Length {
				t.Fatalf("%+v: %+v, %d, not %d", pinned, again, e, r.Length)
			}
			if tellLater(t, pinned, r.Length, e, c.clock+draws.Int64N(20)) {
				longer++
			}
		}
	}
	if min(fast, clean, none, longer) < 200 || broken < 50 {
		t.Errorf("hardly asked: %d, %d, %d, %d, %d", fast, clean, broken, none, longer)
	}
}

// P12.1: layer 10's errors, with nothing.
func TestErrors(t *testing.T) {
	seq := []int{0, 1, 2, 3}
	wrong := one(20)
	wrong.Rides[0] = -1
	pin := func(at int, time int64) []api.Pin { return []api.Pin{{At: 1, Time: 5}, {At: at, Time: time}} }
	for _, c := range []struct {
		call call
		want api.Errno
	}{
		{call{wrong, 0, seq, -1, nil}, api.ErrArg}, {call{api.Instance{}, 0, nil, 0, nil}, api.ErrArg}, {call{one(20), 2, seq, 0, nil}, api.ErrArg}, {call{one(20), -1, nil, 0, nil}, api.ErrArg},
		{call{one(20), 0, nil, -1, nil}, api.ErrDepot}, {call{one(20), 0, []int{0}, 0, nil}, api.ErrDepot}, {call{one(20), 0, []int{1, 2}, 0, nil}, api.ErrDepot},
		{call{one(20), 0, []int{0, 1, 7, 3}, 0, nil}, api.ErrNode}, {call{one(20), 0, []int{0, 2, 1, 3}, 0, nil}, api.ErrPair}, {call{one(20), 1, seq, -1, nil}, api.ErrLoad},
		{call{one(20), 0, seq, -1, nil}, api.ErrRange}, {call{one(20), 0, seq, api.MaxTime + 1, pin(9, 5)}, api.ErrRange}, {call{one(20), 0, seq, math.MinInt64, nil}, api.ErrRange},
		{call{one(20), 0, seq, 0, pin(1, -1)}, api.ErrRange}, {call{one(20), 0, seq, 0, pin(9, math.MaxInt64)}, api.ErrRange},
		{call{one(20), 0, seq, 0, pin(4, 5)}, api.ErrNone}, {call{one(20), 0, seq, 0, pin(-1, 5)}, api.ErrNone}, {call{one(4), 0, seq, 0, append(pin(1, 5), api.Pin{At: math.MaxInt})}, api.ErrNone},
		{call{one(20), 0, seq, 0, pin(1, 5)}, api.ErrTwice}, {call{one(4), 0, seq, api.MaxTime, pin(1, 6)}, api.ErrTwice},
	} {
		r, e := c.call.plan()
		if e != c.want || !reflect.DeepEqual(r, Result{}) {
			t.Errorf("%+v: %+v, %d, not %d", c.call, r, e, c.want)
		}
		if Can(c.call.x, c.call.car, c.call.seq, c.call.clock, c.call.pins) {
			t.Errorf("%+v: can be", c.call)
		}
	}
}

// P12.1: the longest row: what takes all the time that there is can't be, what takes none can.
func TestPlanOfTheLongestRow(t *testing.T) {
	n := api.MaxStops/2 - 1
	x := api.Instance{Cars: []api.Car{{Cap: api.Load{Seats: 1000}, Max: api.MaxTime}}, Stops: make([]api.Stop, 2*n+2), Rides: slices.Repeat([]int64{api.MaxTime}, n)}
	for i := range x.Stops {
		x.Stops[i].Late = api.MaxTime
	}
	seq := make([]int, 2*n+2)
	for i := range seq {
		seq[i] = i
	}
	c := call{x: x, seq: seq, clock: 3}
	r, e := tell(t, c)
	if e != api.OK || r.Length != 0 || !r.Fast || r.Times[2*n+1] != 3 {
		t.Errorf("%d: %d, %v", e, r.Length, r.Fast)
	}
	for i := range seq {
		c.pins = append(c.pins, api.Pin{At: i, Time: api.MaxTime - int64(2*n+1-i)})
	}
	c.clock = api.MaxTime
	if r, e := tell(t, c); e != api.OK || r.Length != int64(2*n+1) || r.Fast || r.Times[0] != c.pins[0].Time {
		t.Errorf("%d: %d, %v", e, r.Length, r.Fast)
	}
	c.pins = nil
	x.Stops[1].Service, x.Stops[2*n].Service = api.MaxTime, api.MaxTime
	if _, e := tell(t, c); e != api.ErrTime {
		t.Errorf("%d", e)
	}
}

// P12.1: the words of an answer's rules, whatever it is.
func TestWhy(t *testing.T) {
	rules := []rule.Rule{{Kind: rule.Late, At: 4, To: 4}, {Kind: rule.Ride, At: 1, To: 2}, {Kind: 9, At: -1}}
	for _, c := range []struct {
		chain, cycle []int
		want         []string
	}{
		{nil, nil, nil}, {[]int{}, []int{}, nil}, {[]int{1, 0}, nil, []string{"ride 1 2", "late 4 4"}}, {nil, []int{0, 1}, []string{"late 4 4", "ride 1 2"}},
		{[]int{1, 1}, []int{2, 0}, []string{"ride 1 2", "ride 1 2", " -1 0", "late 4 4"}}, {[]int{-1, 3, math.MinInt, math.MaxInt}, []int{3, -1}, nil}, {[]int{3, 0}, []int{-1, 1}, []string{"late 4 4", "ride 1 2"}},
	} {
		r := Result{Rules: rules, Answer: proof.Answer{Chain: c.chain, Cycle: c.cycle}}
		if got := Why(r); !slices.Equal(got, c.want) {
			t.Errorf("%v, %v: %q", c.chain, c.cycle, got)
		}
		r.Rules = nil
		if got := Why(r); len(got) != 0 {
			t.Errorf("%v, %v, without rules: %q", c.chain, c.cycle, got)
		}
	}
	r, _ := Plan(one(20), 0, []int{0, 1, 2, 3}, 0, nil)
	if got := Why(r); !slices.Equal(got, []string{"travel 2 3", "travel 1 2", "travel 0 1"}) {
		t.Errorf("the example: %q", got)
	}
}

// What is handed in stays as it is, and no two lists of what is answered share anything.
func TestWhatIsHandedInStays(t *testing.T) {
	x, kept := two(), two()
	seq, pins := []int{0, 1, 3, 2, 4, 5, 9}, []api.Pin{{At: 4, Time: 60}, {At: 8, Time: 8}}
	for many := range 2 {
		first, _ := Plan(x, 0, seq[:6], 0, pins[:many])
		second, _ := Plan(x, 0, seq[:6], 0, pins[:many])
		Why(first)
		if !inst.Same(x, kept) || !slices.Equal(seq, []int{0, 1, 3, 2, 4, 5, 9}) || !slices.Equal(pins, []api.Pin{{At: 4, Time: 60}, {At: 8, Time: 8}}) || !reflect.DeepEqual(first, second) {
			t.Errorf("%d pins: what is handed in is changed", many)
		}
		clear(first.Times[:cap(first.Times)])
		if !slices.Equal(first.Answer.X, second.Answer.X) || !slices.Equal(first.Rules, second.Rules) || slices.Equal(first.Times, second.Times) {
			t.Errorf("%d pins: what is answered is changed", many)
		}
	}
}
