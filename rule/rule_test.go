package rule

import (
	"math"
	"math/big"
	"math/rand/v2"
	"slices"
	"testing"

	"jitney/api"
	"jitney/diff"
	"jitney/inst"
	"jitney/proof"
	"jitney/seqn"
)

const greatest = int64(1) << 52 // MaxTime times 4096

// one is one request from 0 to 3+4i, with a service of 1 at both stops.
func one() api.Instance {
	return api.Instance{
		Cars: []api.Car{{Cap: api.Load{Seats: 1}, Max: 100}, {Max: 200}},
		Stops: []api.Stop{
			{Late: 60},
			{Load: api.Load{Seats: 1}, Service: 1, Early: 5, Late: 50},
			{Load: api.Load{Seats: -1}, Service: 1, Late: 90, Spot: 3 + 4i},
			{Early: 8, Late: 80},
		},
		Rides: []int64{20},
	}
}

// two is two requests with times of their own, one way other than the other.
func two() api.Instance {
	x := api.Instance{Cars: []api.Car{{Max: 7}, {Cap: api.Load{Seats: 3}, Max: 300}}, Rides: []int64{40, 30}, Matrix: make([][]int64, 6)}
	for i := range x.Matrix {
		n := int64(i)
		x.Stops = append(x.Stops, api.Stop{Service: n, Early: 10 * n, Late: 100 + n})
		for j := range x.Matrix {
			x.Matrix[i] = append(x.Matrix[i], 10*n+int64(j))
		}
	}
	x.Stops[0].Service, x.Stops[5].Service = 0, 0
	x.Stops[1].Load.Seats, x.Stops[3].Load.Seats = 1, -1
	x.Stops[2].Load.Seats, x.Stops[4].Load.Seats = 2, -2
	return x
}

func rule(kind, at, to, from, until int, w int64) Rule {
	return Rule{Kind: kind, At: at, To: to, Edge: api.Edge{From: from, To: until, W: w}}
}

func tellRules(t *testing.T, x api.Instance, car int, seq []int, clock int64, pins []api.Pin, want []Rule) {
	t.Helper()
	got, e := Rules(x, car, seq, clock, pins)
	if e != api.OK || len(got) != len(want) {
		t.Fatalf("%v, clock %d, pins %v: %d rules, not %d, %d", seq, clock, pins, len(got), len(want), e)
	}
	for i, r := range got {
		if r != want[i] {
			t.Errorf("%v, clock %d, pins %v, rule %d: %+v, not %+v", seq, clock, pins, i, r, want[i])
		}
	}
}

// P10.1: the rules of the example, without a clock and pins.
func TestRulesOfOneRequest(t *testing.T) {
	tellRules(t, one(), 0, []int{0, 1, 2, 3}, 0, nil, []Rule{
		rule(Travel, 0, 1, 1, 0, 0), rule(Travel, 1, 2, 2, 1, -6), rule(Travel, 2, 3, 3, 2, -6),
		rule(Early, 0, 0, 0, 4, 0), rule(Early, 1, 1, 1, 4, -5), rule(Early, 2, 2, 2, 4, 0), rule(Early, 3, 3, 3, 4, -8),
		rule(Late, 0, 0, 4, 0, 60), rule(Late, 1, 1, 4, 1, 50), rule(Late, 2, 2, 4, 2, 90), rule(Late, 3, 3, 4, 3, 80),
		rule(Ride, 1, 2, 1, 2, 21), rule(Length, 0, 3, 0, 3, 100),
	})
}

// P10.1: the row of both depots, for each car.
func TestRulesOfNobody(t *testing.T) {
	x := one()
	for car, most := range []int64{100, 200} {
		tellRules(t, x, car, []int{0, 3}, 6, []api.Pin{}, []Rule{
			rule(Travel, 0, 1, 1, 0, 0), rule(Early, 0, 0, 0, 2, -6), rule(Early, 1, 1, 1, 2, -8),
			rule(Late, 0, 0, 2, 0, 60), rule(Late, 1, 1, 2, 1, 80), rule(Length, 0, 1, 0, 1, most),
		})
	}
}

// P10.1: rides in the pickups' order, pins in their own; whose stop has one has no window and no clock.
func TestRulesInTheirOrder(t *testing.T) {
	seq := []int{0, 2, 1, 4, 3, 5}
	pins := []api.Pin{{At: 3, Time: 33}, {At: 0, Time: 0}, {At: 5, Time: api.MaxTime}}
	want := []Rule{
		rule(Travel, 0, 1, 1, 0, -2), rule(Travel, 1, 2, 2, 1, -2-21), rule(Travel, 2, 3, 3, 2, -1-14), rule(Travel, 3, 4, 4, 3, -4-43), rule(Travel, 4, 5, 5, 4, -3-35),
		rule(Early, 1, 1, 1, 6, -20), rule(Early, 2, 2, 2, 6, -15), rule(Early, 4, 4, 4, 6, -30),
		rule(Late, 1, 1, 6, 1, 102), rule(Late, 2, 2, 6, 2, 101), rule(Late, 4, 4, 6, 4, 103),
		rule(Ride, 1, 3, 1, 3, 2+30), rule(Ride, 2, 4, 2, 4, 1+40), rule(Length, 0, 5, 0, 5, 300),
		rule(Pinned, 3, 3, 6, 3, 33), rule(Pinned, 3, 3, 3, 6, -33), rule(Pinned, 0, 0, 6, 0, 0), rule(Pinned, 0, 0, 0, 6, 0),
		rule(Pinned, 5, 5, 6, 5, api.MaxTime), rule(Pinned, 5, 5, 5, 6, -api.MaxTime),
	}
	tellRules(t, two(), 1, seq, 15, pins, want)
}

// plain is a row's rules, said stop by stop.
func plain(x api.Instance, car int, seq []int, clock int64, pins []api.Pin) []Rule {
	var travels, earlies, lates, rides, pinned []Rule
	k, n := len(seq), len(x.Rides)
	for i, stop := range seq {
		s := x.Stops[stop]
		if i+1 < k {
			travels = append(travels, rule(Travel, i, i+1, i+1, i, -s.Service-inst.Travel(x, stop, seq[i+1])))
		}
		if !slices.ContainsFunc(pins, func(pin api.Pin) bool { return pin.At == i }) {
			earlies = append(earlies, rule(Early, i, i, i, k, min(-s.Early, -clock)))
			lates = append(lates, rule(Late, i, i, k, i, s.Late))
		}
		if stop >= 1 && stop <= n {
			drop := slices.Index(seq, stop+n)
			rides = append(rides, rule(Ride, i, drop, i, drop, s.Service+x.Rides[stop-1]))
		}
	}
	for _, pin := range pins {
		pinned = append(pinned, rule(Pinned, pin.At, pin.At, k, pin.At, pin.Time), rule(Pinned, pin.At, pin.At, pin.At, k, -pin.Time))
	}
	length := []Rule{rule(Length, 0, k-1, 0, k-1, x.Cars[car].Max)}
	return slices.Concat(travels, earlies, lates, rides, length, pinned)
}

// drawn is a right instance of up to so many requests, and a row that its car can go by.
func drawn(draws *rand.Rand, most int) (api.Instance, []int) {
	n := draws.IntN(most + 1)
	x := api.Instance{Cars: []api.Car{{}, {Cap: api.Load{Seats: 1000}, Max: 5 + draws.Int64N(40)}}, Stops: make([]api.Stop, 2*n+2)}
	for i := range x.Stops {
		s := api.Stop{Early: draws.Int64N(9), Spot: complex(float64(draws.IntN(5)), float64(draws.IntN(5)))}
		s.Late = s.Early + draws.Int64N(50)
		if i > 0 && i <= 2*n {
			s.Service = draws.Int64N(3)
			s.Load.Seats = 1 - (i-1)/n*2
		}
		x.Stops[i] = s
	}
	for range n {
		x.Rides = append(x.Rides, draws.Int64N(20))
	}
	if draws.IntN(2) == 0 {
		for range x.Stops {
			row := make([]int64, len(x.Stops))
			for j := range row {
				row[j] = draws.Int64N(4)
			}
			x.Matrix = append(x.Matrix, row)
		}
	}
	seq := seqn.Empty(x)
	for _, i := range draws.Perm(n)[:draws.IntN(n+1)] {
		a := 1 + draws.IntN(len(seq)-1)
		seq = seqn.With(x, seq, i+1, a, a+1+draws.IntN(len(seq)-a))
	}
	return x, seq
}

// pinning is pins for some places of a row, drawn, near times that may hold.
func pinning(draws *rand.Rand, times []int64) []api.Pin {
	var pins []api.Pin
	for _, at := range draws.Perm(len(times))[:draws.IntN(len(times)+1)] {
		pins = append(pins, api.Pin{At: at, Time: times[at]})
	}
	return pins
}

// P10.1: the rules of drawn rows; they are a right system, however many there are.
func TestRulesOfDrawnRows(t *testing.T) {
	draws := rand.New(rand.NewPCG(1, 2))
	for range 3000 {
		x, seq := drawn(draws, 6)
		times := make([]int64, len(seq))
		for i := range times {
			times[i] = draws.Int64N(api.MaxTime + 1)
		}
		pins, clock := pinning(draws, times), draws.Int64N(20)
		tellRules(t, x, 1, seq, clock, pins, plain(x, 1, seq, clock, pins))
		rules, _ := Rules(x, 1, seq, clock, pins)
		if !diff.Right(len(seq)+1, Edges(rules)) {
			t.Fatalf("%v: no right system", rules)
		}
	}
}

// P10.1: the longest row, with the greatest numbers.
func TestRulesOfTheLongestRow(t *testing.T) {
	n := api.MaxStops/2 - 1
	x := api.Instance{Cars: []api.Car{{Max: api.MaxTime}}, Stops: make([]api.Stop, 2*n+2), Rides: slices.Repeat([]int64{api.MaxTime}, n)}
	seq := []int{0}
	for i := range x.Stops {
		x.Stops[i] = api.Stop{Service: api.MaxTime, Early: api.MaxTime, Late: api.MaxTime, Spot: api.MaxCoord * (-1 - 1i)}
		if i%2 == 0 {
			x.Stops[i].Spot = -x.Stops[i].Spot
		}
		if i < n {
			seq = append(seq, n-i, 2*n-i)
		}
	}
	seq = append(seq, 2*n+1)
	x.Stops[0].Service, x.Stops[2*n+1].Service = 0, 0
	var pins []api.Pin
	for i := range seq {
		pins = append(pins, api.Pin{At: len(seq) - 1 - i, Time: api.MaxTime - int64(i)})
	}
	for _, some := range []int{0, 1, 100, len(seq)} {
		tellRules(t, x, 0, seq, api.MaxTime, pins[:some], plain(x, 0, seq, api.MaxTime, pins[:some]))
		rules, _ := Rules(x, 0, seq, api.MaxTime, pins[:some])
		if !diff.Right(len(seq)+1, Edges(rules)) {
			t.Errorf("%d pins: no right system", some)
		}
	}
	if _, e := Rules(x, 0, seq, 0, append(pins, api.Pin{})); e != api.ErrTwice {
		t.Errorf("a pin too many: %d", e)
	}
}

// call is what Rules and Hold are handed.
type call struct {
	x     api.Instance
	car   int
	seq   []int
	clock int64
	pins  []api.Pin
	times []int64
}

// fine is a call of which times hold.
func fine() call {
	return call{one(), 0, []int{0, 1, 2, 3}, 2, []api.Pin{{At: 1, Time: 5}}, []int64{5, 5, 11, 17}}
}

type fault struct {
	name string
	want api.Errno
	turn func(c *call)
}

// faults is what may be wrong with fine(), by its rank, in the chapter's order.
func faults() [][]fault {
	var rows, ranges, places, twice []fault
	add := func(list *[]fault, want api.Errno, name string, turn func(c *call)) {
		*list = append(*list, fault{name, want, turn})
	}
	add(&rows, api.ErrArg, "no car", func(c *call) { c.car = 2 })
	add(&rows, api.ErrArg, "a car below 0", func(c *call) { c.car = -1 })
	add(&rows, api.ErrArg, "an instance that isn't right", func(c *call) { c.x.Rides = []int64{-1} })
	add(&rows, api.ErrArg, "an instance of nothing", func(c *call) { c.x = api.Instance{} })
	add(&rows, api.ErrDepot, "no row", func(c *call) { c.seq = nil })
	add(&rows, api.ErrDepot, "a row that doesn't end", func(c *call) { c.seq = c.seq[:3] })
	add(&rows, api.ErrNode, "a stop that isn't there", func(c *call) { c.seq[1] = 9 })
	add(&rows, api.ErrPair, "the drop ahead", func(c *call) { c.seq[1], c.seq[2] = 2, 1 })
	add(&rows, api.ErrLoad, "a car without a seat", func(c *call) { c.car = 1 })
	for _, n := range []int64{-1, api.MaxTime + 1, math.MinInt64, math.MaxInt64} {
		add(&ranges, api.ErrRange, "the clock", func(c *call) { c.clock = n })
		add(&ranges, api.ErrRange, "a pin's time", func(c *call) { c.pins[0].Time = n })
		add(&ranges, api.ErrRange, "one more pin's time", func(c *call) { c.pins = append(c.pins, api.Pin{At: 2, Time: n}) })
	}
	for _, n := range []int{-1, 4, 5, math.MinInt, math.MaxInt} {
		add(&places, api.ErrNone, "a pin's place", func(c *call) { c.pins[0].At = n })
		add(&places, api.ErrNone, "one more pin's place", func(c *call) { c.pins = append(c.pins, api.Pin{At: n, Time: 11}) })
	}
	add(&twice, api.ErrTwice, "two pins of one place and time", func(c *call) {
		c.pins = append(c.pins, api.Pin{At: 3, Time: 17}, api.Pin{At: 3, Time: 17})
	})
	add(&twice, api.ErrTwice, "two pins of one place", func(c *call) {
		c.pins = append(c.pins, api.Pin{At: 2, Time: 12}, api.Pin{At: 0, Time: 5}, api.Pin{At: 2, Time: 11})
	})
	return [][]fault{rows, ranges, places, twice}
}

func tellError(t *testing.T, name string, c call, want api.Errno) {
	t.Helper()
	if rules, e := Rules(c.x, c.car, c.seq, c.clock, c.pins); e != want || len(rules) != 0 {
		t.Errorf("%s: %d rules, %d, not %d", name, len(rules), e, want)
	}
	if Hold(c.x, c.car, c.seq, c.clock, c.pins, c.times) {
		t.Errorf("%s: times hold", name)
	}
}

// P10.1: each error alone, and of each two the one that is named first; with one no times hold.
func TestErrors(t *testing.T) {
	c := fine()
	if !Hold(c.x, c.car, c.seq, c.clock, c.pins, c.times) {
		t.Fatal("times of the fine call don't hold")
	}
	ranks := faults()
	for i, first := range ranks {
		for _, f := range first {
			c := fine()
			f.turn(&c)
			tellError(t, f.name, c, f.want)
			for _, g := range slices.Concat(ranks[i+1:]...) {
				c := fine()
				g.turn(&c)
				f.turn(&c)
				tellError(t, f.name+", and "+g.name, c, f.want)
			}
		}
	}
}

// P10.1: clocks and pins at their bounds are none of these errors.
func TestBoundsOfClockAndPins(t *testing.T) {
	for _, n := range []int64{0, api.MaxTime} {
		for at := range 4 {
			c := fine()
			if _, e := Rules(c.x, c.car, c.seq, n, []api.Pin{{At: at, Time: n}}); e != api.OK {
				t.Errorf("clock and time %d at %d: %d", n, at, e)
			}
		}
	}
}

// P10.1: a rule's words, of each kind and of others.
func TestText(t *testing.T) {
	for _, c := range []struct {
		r    Rule
		want string
	}{
		{Rule{Kind: Travel, At: 0, To: 1}, "travel 0 1"}, {Rule{Kind: Early, At: 3, To: 3}, "early 3 3"}, {Rule{Kind: Late, At: 4095, To: 4095}, "late 4095 4095"},
		{Rule{Kind: Ride, At: 1, To: 12}, "ride 1 12"}, {Rule{Kind: Length, To: 7}, "length 0 7"}, {Rule{Kind: Pinned, At: 2, To: 2, Edge: api.Edge{From: 8, To: 2, W: 9}}, "pinned 2 2"},
		{Rule{}, " 0 0"}, {Rule{Kind: 7, At: -1, To: -20}, " -1 -20"}, {Rule{Kind: -1, At: 5}, " 5 0"},
		{Rule{Kind: math.MinInt, At: math.MinInt, To: math.MaxInt}, " -9223372036854775808 9223372036854775807"}, {Rule{Kind: math.MaxInt}, " 0 0"},
	} {
		if got := Text(c.r); got != c.want {
			t.Errorf("Text(%+v): %q, not %q", c.r, got, c.want)
		}
	}
	for i, kind := range []int{Travel, Early, Late, Ride, Length, Pinned} {
		if kind != i+1 {
			t.Errorf("kind %d is %d", i+1, kind)
		}
	}
}

// P10.1: the edges of rules, whatever these are.
func TestEdges(t *testing.T) {
	if got := Edges(nil); len(got) != 0 {
		t.Errorf("of none: %v", got)
	}
	rules := []Rule{{Edge: api.Edge{From: -3, To: 9, W: math.MinInt64}}, {Kind: 99, At: 1}, rule(Ride, 1, 2, 3, 4, 5)}
	want := []api.Edge{{From: -3, To: 9, W: math.MinInt64}, {}, {From: 3, To: 4, W: 5}}
	if got := Edges(rules); !slices.Equal(got, want) {
		t.Errorf("%v", got)
	}
}

// tellHold holds Hold against the edges of the rules (P10.2), and tells its answer.
func tellHold(t *testing.T, c call) bool {
	t.Helper()
	rules, e := Rules(c.x, c.car, c.seq, c.clock, c.pins)
	if e != api.OK {
		t.Fatalf("%v, pins %v: %d", c.seq, c.pins, e)
	}
	far := slices.ContainsFunc(c.times, func(n int64) bool { return n < 0 || n > greatest })
	want := len(c.times) == len(c.seq) && !far && exactly(Edges(rules), append(slices.Clone(c.times), 0))
	got := Hold(c.x, c.car, c.seq, c.clock, c.pins, c.times)
	if got != want {
		t.Fatalf("%+v: %v", c, got)
	}
	if len(c.times) == len(c.seq) && !far && diff.Holds(Edges(rules), append(slices.Clone(c.times), 0)) != got {
		t.Fatalf("%+v: %v, but not the edges", c, got)
	}
	return got
}

// exactly tells whether edges hold of numbers, in numbers of any size.
func exactly(es []api.Edge, x []int64) bool {
	for _, e := range es {
		far := new(big.Int).Sub(big.NewInt(x[e.To]), big.NewInt(x[e.From]))
		if far.Cmp(big.NewInt(e.W)) > 0 {
			return false
		}
	}
	return true
}

// P10.2: all times up to some bound, of rows of one request, with all kinds of pins.
func TestHoldOfAllSmallTimes(t *testing.T) {
	x := one()
	x.Cars[0].Max = 8
	x.Rides[0] = 3
	x.Stops = []api.Stop{
		{Late: 4}, {Load: api.Load{Seats: 1}, Service: 1, Early: 1, Late: 5}, {Load: api.Load{Seats: -1}, Service: 2, Early: 3, Late: 6, Spot: 1}, {Early: 5, Late: 9},
	}
	answers := map[bool]int{}
	for _, pins := range [][]api.Pin{nil, {{At: 0, Time: 0}}, {{At: 1, Time: 2}}, {{At: 0, Time: 5}, {At: 1, Time: 6}}, {{At: 3, Time: 10}}, {{At: 2, Time: 1}}} {
		for _, clock := range []int64{0, 2, 9} {
			for k := range int64(11 * 11 * 11 * 11) {
				times := []int64{k / 1331, k / 121 % 11, k / 11 % 11, k % 11}
				answers[tellHold(t, call{x, 0, []int{0, 1, 2, 3}, clock, pins, times})]++
			}
		}
	}
	if answers[true] < 100 || answers[false] < 1000 {
		t.Errorf("hardly asked: %v", answers)
	}
}

// P10.2: times of drawn rows that are told to hold (layer 8), and the same with a stop turned by a little.
func TestHoldOfDrawnTimes(t *testing.T) {
	draws := rand.New(rand.NewPCG(3, 4))
	answers := map[bool]int{}
	for range 4000 {
		x, seq := drawn(draws, 4)
		c := call{x: x, car: 1, seq: seq, clock: draws.Int64N(8)}
		rules, _ := Rules(x, 1, seq, c.clock, nil)
		least, e := proof.Least(len(seq)+1, Edges(rules), 0, len(seq)-1)
		if e != api.OK {
			t.Fatalf("%v: %d", seq, e)
		}
		if len(least.Cycle) > 0 {
			continue
		}
		c.times = least.X[:len(seq)]
		if !tellHold(t, c) {
			t.Fatalf("%+v: what is told doesn't hold", c)
		}
		c.pins = pinning(draws, c.times)
		c.clock = draws.Int64N(30)
		for i := range c.times {
			for _, by := range []int64{0, -1, 1, draws.Int64N(20) - 10, api.MaxTime} {
				turned := c
				turned.times = slices.Clone(c.times)
				turned.times[i] += by
				answers[tellHold(t, turned)]++
			}
		}
		later := c
		later.times = nil
		for _, n := range c.times {
			later.times = append(later.times, n+1)
		}
		answers[tellHold(t, later)]++
	}
	if answers[true] < 2000 || answers[false] < 2000 {
		t.Errorf("hardly asked: %v", answers)
	}
}

// P10.1: each rule alone is asked of times that are fine but for it.
func TestHoldOfEachRule(t *testing.T) {
	x := two()
	seq := []int{0, 2, 1, 4, 3, 5}
	good := []int64{17, 20, 43, 58, 105, 143}
	x.Stops[0].Late, x.Stops[3].Late, x.Stops[5].Late = 17, 105, 143
	x.Rides = []int64{61, 36}
	x.Cars[1].Max = 126
	if !Hold(x, 1, seq, 0, nil, good) {
		t.Fatal("the good times don't hold")
	}
	turns := []struct {
		name string
		turn func(c *call)
	}{
		{"travel", func(c *call) { c.x.Matrix[2][1]++ }}, {"travel's service", func(c *call) { c.x.Stops[1].Service++; c.x.Rides[0]++ }}, {"travel to the end", func(c *call) { c.x.Matrix[3][5]++ }},
		{"early", func(c *call) { c.x.Stops[2].Early++ }}, {"late", func(c *call) { c.x.Stops[3].Late-- }}, {"late at the end", func(c *call) { c.x.Stops[5].Late-- }},
		{"clock", func(c *call) { c.clock = 18 }}, {"ride of 1", func(c *call) { c.x.Rides[0]-- }}, {"ride of 2", func(c *call) { c.x.Rides[1]-- }}, {"length", func(c *call) { c.x.Cars[1].Max-- }},
		{"a pin too early", func(c *call) { c.pins = []api.Pin{{At: 3, Time: 57}} }}, {"a pin too late", func(c *call) { c.pins = []api.Pin{{At: 3, Time: 59}} }},
		{"a time too few", func(c *call) { c.times = good[:5] }}, {"a time too many", func(c *call) { c.times = append(slices.Clone(good), 150) }}, {"no times", func(c *call) { c.times = nil }},
	}
	for _, turn := range turns {
		c := call{two(), 1, seq, 0, nil, good}
		c.x.Stops, c.x.Rides, c.x.Cars = slices.Clone(x.Stops), slices.Clone(x.Rides), slices.Clone(x.Cars)
		turn.turn(&c)
		if Hold(c.x, c.car, c.seq, c.clock, c.pins, c.times) {
			t.Errorf("%s: times hold", turn.name)
		}
	}
	// A stop with a pin asks neither its window nor the clock.
	x.Stops[0].Early, x.Stops[0].Late, x.Stops[3].Late = 0, 3, 30
	if !Hold(x, 1, seq, 20, []api.Pin{{At: 0, Time: 17}, {At: 4, Time: 105}}, good) || Hold(x, 1, seq, 20, []api.Pin{{At: 0, Time: 17}}, good) || Hold(x, 1, seq, 21, []api.Pin{{At: 0, Time: 17}, {At: 4, Time: 105}}, good) {
		t.Error("pins and the clock")
	}
}

// P10.1, P10.2: times at the bounds, and far beyond them, where sums would go round.
func TestHoldOfAnyTimes(t *testing.T) {
	corners := []int64{math.MinInt64, math.MinInt64 + 1, -greatest, -api.MaxTime, -1, 0, 1, api.MaxTime - 1, api.MaxTime, api.MaxTime + 1, greatest - 1, greatest, greatest + 1, 1 << 62, math.MaxInt64 - 1, math.MaxInt64}
	x := one()
	x.Cars[0].Max, x.Rides[0] = api.MaxTime, api.MaxTime
	for i := range x.Stops {
		x.Stops[i].Early, x.Stops[i].Late = 0, api.MaxTime
	}
	x.Stops[1].Service, x.Stops[2].Service, x.Stops[2].Spot = 0, 0, 0
	slow := one()
	slow.Stops[1].Service, slow.Stops[2].Service = api.MaxTime, api.MaxTime
	held := 0
	for _, a := range corners {
		for _, b := range corners {
			for _, times := range [][]int64{{a, a, b, b}, {a, b, b, b}, {0, a, b, api.MaxTime}, {a, a, a, b}} {
				tellHold(t, call{slow, 0, []int{0, 1, 2, 3}, 0, nil, times})
				if tellHold(t, call{x, 0, []int{0, 1, 2, 3}, 0, nil, times}) {
					held++
				}
				tellHold(t, call{x, 0, []int{0, 1, 2, 3}, 0, []api.Pin{{At: 2, Time: api.MaxTime}}, times})
			}
		}
	}
	if held < 20 {
		t.Errorf("only %d hold", held)
	}
}

// What is handed in stays as it is, and what is answered shares nothing with it.
func TestWhatIsHandedInStays(t *testing.T) {
	x, kept := two(), two()
	seq, pins, times := []int{0, 2, 1, 4, 3, 5, 9}, []api.Pin{{At: 1, Time: 25}, {At: 0, Time: 17}, {At: 9, Time: 9}}, []int64{17, 25, 48, 63, 110, 148, 9}
	keptPins := slices.Clone(pins)
	first, _ := Rules(x, 1, seq[:6], 3, pins[:2])
	Hold(x, 1, seq[:6], 3, pins[:2], times[:6])
	edges := Edges(first)
	if !inst.Same(x, kept) || !slices.Equal(seq, []int{0, 2, 1, 4, 3, 5, 9}) || !slices.Equal(pins, keptPins) || !slices.Equal(times, []int64{17, 25, 48, 63, 110, 148, 9}) {
		t.Error("what is handed in is changed")
	}
	want := slices.Clone(first)
	clear(edges[:cap(edges)])
	clear(pins)
	clear(seq)
	if !slices.Equal(first, want) || !slices.Equal(want, plain(x, 1, []int{0, 2, 1, 4, 3, 5}, 3, keptPins[:2])) {
		t.Error("what is answered is changed")
	}
}
