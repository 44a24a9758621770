package moves

import (
	"math"
	"slices"
	"testing"

	"jitney/api"
	"jitney/regret"
)

// lying is an instance of requests from place to place, one seat each, with cars of so many seats; nothing else holds anybody.
func lying(seats []int, places ...[2]complex128) api.Instance {
	n := len(places)
	x := api.Instance{Rides: slices.Repeat([]int64{1000}, n), Stops: make([]api.Stop, 2*n+2)}
	for _, many := range seats {
		x.Cars = append(x.Cars, api.Car{Cap: api.Load{Seats: many}, Max: 1000})
	}
	for i := range x.Stops {
		x.Stops[i].Late = 1000
	}
	for i, p := range places {
		x.Stops[1+i].Spot, x.Stops[1+n+i].Spot = p[0], p[1]
		x.Stops[1+i].Load.Seats, x.Stops[1+n+i].Load.Seats = 1, -1
	}
	return x
}

// three is three requests on a line, and three cars with a seat each.
func three() api.Instance {
	return lying([]int{1, 1, 1}, [2]complex128{1, 3}, [2]complex128{2, 4}, [2]complex128{3, 5})
}

// timed is an instance with a Matrix with such a time from each stop to each other one.
func timed(x api.Instance, time int64) api.Instance {
	x.Matrix = nil
	for i := range x.Stops {
		x.Matrix = append(x.Matrix, slices.Repeat([]int64{time}, len(x.Stops)))
		x.Matrix[i][i] = 0
	}
	return x
}

// tour is a row, and pins at these times for its first stops.
func tour(seq []int, times ...int64) api.Tour {
	t := api.Tour{Seq: seq}
	for i, time := range times {
		t.Pins = append(t.Pins, api.Pin{At: i, Time: time})
	}
	return t
}

// rows is tours of these rows, without pins.
func rows(seqs ...[]int) []api.Tour {
	tours := make([]api.Tour, len(seqs))
	for i, seq := range seqs {
		tours[i].Seq = seq
	}
	return tours
}

func sameTour(a, b api.Tour) bool {
	return slices.Equal(a.Seq, b.Seq) && slices.Equal(a.Pins, b.Pins)
}

func sameTours(a, b []api.Tour) bool {
	return slices.EqualFunc(a, b, sameTour)
}

// copied is tours in memory of their own.
func copied(tours []api.Tour) []api.Tour {
	var list []api.Tour
	for _, t := range tours {
		list = append(list, api.Tour{Seq: slices.Clone(t.Seq), Pins: slices.Clone(t.Pins)})
	}
	return list
}

// P19.1: all moves, told by hand.
func TestAllByHand(t *testing.T) {
	x := three() // 1 to 3 are the pickups, 4 to 6 the drops, 7 is the end's depot
	few := x
	few.Stops, few.Cars = nil, nil
	one, two, last := []int{0, 1, 4, 7}, []int{0, 2, 5, 7}, []int{0, 3, 6, 7}
	for _, c := range []struct {
		what  string
		x     api.Instance
		tours []api.Tour
		want  []Move
	}{
		{"no tours", x, nil, nil}, {"no rows", x, rows(nil, nil), nil}, {"idle tours", x, rows([]int{0, 7}, []int{0, 7}), nil}, {"nothing at all", api.Instance{}, rows([]int{0, 1, 2}), nil},
		{"one", x, rows(one), []Move{{1, 0, 0, 0}}}, {"one, and idle tours", x, rows([]int{0, 7}, one, []int{0, 7}), []Move{{1, 1, 0, 0}, {1, 1, 1, 0}, {1, 1, 2, 0}}},
		{"two of one tour", x, rows([]int{0, 2, 5, 1, 4, 7}), []Move{{1, 0, 0, 0}, {2, 0, 0, 0}}},
		{"two of two tours", x, rows(two, one), []Move{{1, 1, 0, 0}, {1, 1, 1, 0}, {2, 0, 0, 0}, {2, 0, 1, 0}, {1, 1, 0, 2}}},
		{"three of three tours", x, rows(last, one, two), []Move{{1, 1, 0, 0}, {1, 1, 1, 0}, {1, 1, 2, 0}, {2, 2, 0, 0}, {2, 2, 1, 0}, {2, 2, 2, 0}, {3, 0, 0, 0}, {3, 0, 1, 0}, {3, 0, 2, 0}, {1, 1, 2, 2}, {1, 1, 0, 3}, {2, 2, 0, 3}}},
		{"the first and the last of one tour", x, rows([]int{0, 1, 3, 6, 4, 7}, two), []Move{{1, 0, 0, 0}, {1, 0, 1, 0}, {2, 1, 0, 0}, {2, 1, 1, 0}, {3, 0, 0, 0}, {3, 0, 1, 0}, {1, 0, 1, 2}, {2, 1, 0, 3}}},
		{"the first two of one tour", x, rows([]int{0, 1, 2, 5, 4, 7}, last), []Move{{1, 0, 0, 0}, {1, 0, 1, 0}, {2, 0, 0, 0}, {2, 0, 1, 0}, {3, 1, 0, 0}, {3, 1, 1, 0}, {1, 0, 1, 3}, {2, 0, 1, 3}}},
		{"a frozen depot", x, []api.Tour{tour(one, 0)}, []Move{{1, 0, 0, 0}}}, {"a frozen pickup", x, []api.Tour{tour(one, 0, 1), tour(two, 0)}, []Move{{2, 1, 0, 0}, {2, 1, 1, 0}}}, {"a frozen drop", x, []api.Tour{tour(one, 0, 1, 3)}, nil}, {"all is frozen", x, []api.Tour{tour(one, 0, 1, 3, 6)}, nil}, {"more pins than stops", x, []api.Tour{tour(one, 0, 1, 3, 6, 9, 9)}, nil},
		{"behind the frozen ones", x, []api.Tour{tour([]int{0, 1, 2, 5, 4, 7}, 0, 1)}, []Move{{2, 0, 0, 0}}}, {"how many pins, not of what", x, []api.Tour{{Seq: one, Pins: []api.Pin{{At: 9, Time: -1}}}}, []Move{{1, 0, 0, 0}}}, {"so too", x, []api.Tour{{Seq: one, Pins: []api.Pin{{At: 9}, {At: 9}}}}, nil},
		{"a pickup alone", x, rows([]int{0, 1, 7}), nil}, {"a drop alone", x, rows([]int{0, 4, 7}), nil}, {"stops of two tours", x, rows([]int{0, 1, 7}, []int{0, 4, 7}), nil}, {"the drop ahead", x, rows([]int{0, 4, 1, 7}), []Move{{1, 0, 0, 0}}}, {"the drop ahead, frozen", x, []api.Tour{tour([]int{0, 4, 1, 7}, 0, 1)}, []Move{{1, 0, 0, 0}}},
		{"in two tours: the first", x, rows([]int{0, 7}, one, one), []Move{{1, 1, 0, 0}, {1, 1, 1, 0}, {1, 1, 2, 0}}}, {"in two, without a drop in the first", x, rows([]int{0, 1, 7}, one), nil}, {"in two, a drop alone in the first", x, rows([]int{0, 4, 7}, one), []Move{{1, 1, 0, 0}, {1, 1, 1, 0}}}, {"in two, frozen in the first", x, []api.Tour{tour(one, 0, 1), tour(one)}, nil}, {"in two, frozen in the second", x, []api.Tour{tour(one), tour(one, 0, 1)}, []Move{{1, 0, 0, 0}, {1, 0, 1, 0}}},
		{"a pickup twice, the first one frozen", x, []api.Tour{tour([]int{0, 1, 1, 4, 7}, 0, 1)}, nil}, {"a pickup twice", x, []api.Tour{tour([]int{0, 1, 1, 4, 4, 7}, 0)}, []Move{{1, 0, 0, 0}}}, {"no depots", x, rows([]int{4, 1}), []Move{{1, 0, 0, 0}}}, {"stops that aren't", x, rows([]int{-1, 8, math.MinInt, 2, 9, 5, math.MaxInt}), []Move{{2, 0, 0, 0}}},
		{"more tours than cars", few, rows(two, one), []Move{{1, 1, 0, 0}, {1, 1, 1, 0}, {2, 0, 0, 0}, {2, 0, 1, 0}, {1, 1, 0, 2}}},
	} {
		for range 3 {
			if got := slices.Collect(All(c.x, c.tours)); !slices.Equal(got, c.want) {
				t.Errorf("%s: %v, not %v", c.what, got, c.want)
				break
			}
		}
	}
}

// P19.1: as long as more is asked for, and as often as it is gone over, one in another too.
func TestAllGoesOn(t *testing.T) {
	x := three()
	moves := All(x, rows([]int{0, 1, 4, 7}, []int{0, 3, 6, 7}, []int{0, 2, 5, 7}))
	want := slices.Collect(moves)
	if len(want) != 12 {
		t.Fatalf("%v", want)
	}
	for most := range len(want) + 1 {
		var got []Move
		for m := range moves {
			for other := range moves {
				if other != want[0] {
					t.Errorf("within, %v is first", other)
				}
				break
			}
			if got = append(got, m); len(got) >= most {
				break
			}
		}
		if most = max(most, 1); !slices.Equal(got, want[:most]) {
			t.Errorf("%d: %v", most, got)
		}
	}
}

// P1: of many in one tour, and of many tours, no more is asked than there is to be told.
func TestAllOfManyRequests(t *testing.T) {
	const n = 1 << 17
	x := api.Instance{Rides: make([]int64, n)}
	var one, others []int // one of the requests stands alone
	for request := 1; request <= n; request++ {
		if request == n/2 {
			one = []int{request, n + request}
		} else {
			others = append(others, request, n+request)
		}
	}
	count := func(tours ...[]int) (alone, pairs int) {
		for m := range All(x, rows(tours...)) {
			if m.Other == 0 {
				alone++
			} else {
				pairs++
			}
		}
		return alone, pairs
	}
	if alone, pairs := count(others); alone != n-1 || pairs != 0 {
		t.Errorf("one tour: %d, %d", alone, pairs)
	}
	if alone, pairs := count(others, one); alone != 2*n || pairs != n-1 {
		t.Errorf("two tours: %d, %d", alone, pairs)
	}
	for m := range All(x, append(make([]api.Tour, n), rows(one, others)...)) {
		if m != (Move{1, n + 1, 0, 0}) {
			t.Errorf("many tours: %v", m)
		}
		break
	}
}

// turned is what Do and Gain are asked, and what they must answer: the rows, and by how much they cost less; nil, if it can't be done.
type turned struct {
	what  string
	x     api.Instance
	tours []api.Tour
	clock int64
	m     Move
	want  [][]int
	gain  int64
}

func (c turned) ask(t *testing.T) {
	t.Helper()
	want := copied(c.tours)
	for i, seq := range c.want {
		want[i].Seq = seq
	}
	done := c.want != nil
	if got, ok := Do(c.x, c.tours, c.clock, c.m); ok != done || !sameTours(got, want) {
		t.Errorf("%s: %+v, %v; not %v", c.what, got, ok, c.want)
	}
	if gain, ok := Gain(c.x, c.tours, c.clock, c.m); ok != done || gain != c.gain {
		t.Errorf("%s: %d, %v are gained, not %d", c.what, gain, ok, c.gain)
	}
}

// P19.1: moves that can be done, by hand.
func TestMovesByHand(t *testing.T) {
	x := three()
	roomy := lying([]int{3, 3, 3}, [2]complex128{1, 3}, [2]complex128{2, 4}, [2]complex128{3, 5})
	one, two, last, idle := []int{0, 1, 4, 7}, []int{0, 2, 5, 7}, []int{0, 3, 6, 7}, []int{0, 7}
	round := timed(x, 5)
	round.Matrix[4][7] = 1
	for _, c := range []turned{
		{"to another tour", x, rows(one, two), 0, Move{2, 1, 0, 0}, [][]int{{0, 1, 4, 2, 5, 7}, idle}, 4}, {"to an earlier place", x, rows(two, one), 0, Move{1, 1, 0, 0}, [][]int{{0, 1, 4, 2, 5, 7}, idle}, 4},
		{"to an idle one", x, rows(one, idle), 0, Move{1, 0, 1, 0}, [][]int{idle, one}, 0}, {"from one of two", x, rows([]int{0, 1, 4, 2, 5, 7}, idle), 0, Move{2, 0, 1, 0}, [][]int{one, two}, -4},
		{"where it is", x, rows(one), 0, Move{1, 0, 0, 0}, [][]int{one}, 0}, {"to a better place of the same", x, rows([]int{0, 2, 5, 1, 4, 7}), 0, Move{1, 0, 0, 0}, [][]int{{0, 1, 4, 2, 5, 7}}, 2}, {"together", roomy, rows([]int{0, 2, 5, 1, 4, 7}), 0, Move{2, 0, 0, 0}, [][]int{{0, 1, 2, 5, 4, 7}}, 4},
		{"both change", x, rows(one, two), 0, Move{1, 0, 1, 2}, [][]int{two, one}, 0}, {"so too", x, rows(one, two), 0, Move{2, 1, 0, 1}, [][]int{two, one}, 0}, {"both change, of three", roomy, rows([]int{0, 1, 4, 3, 6, 7}, idle, two), 0, Move{1, 0, 2, 2}, [][]int{{0, 2, 3, 5, 6, 7}, idle, one}, 2},
		{"what is frozen stays", roomy, []api.Tour{tour([]int{0, 1, 3, 6, 4, 7}, 0, 1), tour(two, 0)}, 0, Move{3, 0, 1, 2}, [][]int{{0, 1, 2, 5, 4, 7}, last}, 0}, {"behind what is frozen", x, []api.Tour{tour(two, 0, 2, 4), tour(one)}, 0, Move{1, 1, 0, 0}, [][]int{{0, 2, 5, 1, 4, 7}, idle}, 2},
		{"from a tour that isn't right", x, rows([]int{0, 1, 2, 4, 5, 7}, idle), 0, Move{2, 0, 1, 0}, [][]int{one, two}, -6}, {"in the same, that isn't right", x, rows([]int{0, 1, 2, 4, 5, 7}), 0, Move{2, 0, 0, 0}, [][]int{{0, 1, 4, 2, 5, 7}}, -2}, {"the drop ahead", x, rows([]int{0, 4, 1, 7}), 0, Move{1, 0, 0, 0}, [][]int{one}, 0}, {"both tours aren't right", x, rows([]int{0, 4, 1, 7}, []int{0, 2, 2, 5, 7}), 0, Move{1, 0, 1, 2}, [][]int{two, one}, 0},
		{"a third one that isn't right", x, rows(one, idle, []int{9}), 0, Move{1, 0, 1, 0}, [][]int{idle, one, {9}}, 0}, {"more tours than cars", x, rows(one, idle, idle, last), 0, Move{1, 0, 2, 0}, [][]int{idle, idle, one, last}, 0}, {"fewer tours than cars", x, rows(one), 0, Move{1, 0, 0, 0}, [][]int{one}, 0},
		{"in two tours, and both change", x, rows(one, one), 0, Move{1, 0, 1, 1}, [][]int{one, one}, 0}, {"with a Matrix", round, rows(one, two), 0, Move{2, 1, 0, 0}, [][]int{{0, 2, 5, 1, 4, 7}, idle}, 0},
		{"at the last clock", x, rows(one, two), 994, Move{1, 0, 2, 0}, nil, 0}, {"at the last clock", x, rows(one, two, idle), 992, Move{1, 0, 2, 0}, [][]int{idle, two, one}, 0},
	} {
		c.ask(t)
	}
}

// P19.1: moves that can't be done, by hand: the tours are as they were.
func TestMovesThatCantBeDone(t *testing.T) {
	x := three()
	one, two, idle := []int{0, 1, 4, 7}, []int{0, 2, 5, 7}, []int{0, 7}
	both := []int{0, 1, 4, 2, 5, 7}
	wrong, slow, lame := three(), three(), three()
	wrong.Rides[2] = -1
	slow.Cars[1].Max = 5
	lame.Cars[1].Cap.Seats = 0
	byWay := timed(three(), 1)
	byWay.Matrix[0][5], byWay.Matrix[0][2], byWay.Matrix[0][3] = 2000, 2000, 2000 // only by way of 1 in time
	for _, c := range []turned{
		{"no such tour", x, rows(one, two), 0, Move{1, 0, 2, 0}, nil, 0}, {"no such tour", x, rows(one, two), 0, Move{1, 0, -1, 0}, nil, 0}, {"no such tour", x, rows(one, two), 0, Move{1, -1, 0, 0}, nil, 0}, {"no such tour", x, rows(one, two), 0, Move{1, 2, 0, 0}, nil, 0}, {"no such tour", x, rows(one, two), 0, Move{1, math.MaxInt, math.MinInt, 2}, nil, 0}, {"no such tour", x, rows(one, two), 0, Move{1, 0, 2, 2}, nil, 0}, {"no tours", x, nil, 0, Move{1, 0, 0, 0}, nil, 0}, {"nothing at all", api.Instance{}, nil, 0, Move{}, nil, 0},
		{"who isn't there", x, rows(one, two), 0, Move{2, 0, 1, 0}, nil, 0}, {"who stands nowhere", x, rows(one, two), 0, Move{3, 0, 1, 0}, nil, 0}, {"nobody", x, rows(one, two), 0, Move{0, 0, 1, 0}, nil, 0}, {"nobody", x, rows(one, two), 0, Move{4, 0, 1, 0}, nil, 0}, {"nobody", x, rows(one, two), 0, Move{-1, 0, 1, 0}, nil, 0}, {"nobody", x, rows(one, two), 0, Move{math.MinInt, 0, 1, 0}, nil, 0},
		{"the other one isn't there", x, rows(one, two), 0, Move{1, 0, 1, 1}, nil, 0}, {"the other one stands nowhere", x, rows(one, two), 0, Move{1, 0, 1, 3}, nil, 0}, {"the other one is nobody", x, rows(one, two), 0, Move{1, 0, 1, 4}, nil, 0}, {"the other one is nobody", x, rows(one, two), 0, Move{1, 0, 1, -1}, nil, 0}, {"who isn't there for another one", x, rows(one, two), 0, Move{3, 0, 1, 2}, nil, 0},
		{"the other one in the same tour", x, rows(both, idle), 0, Move{1, 0, 0, 2}, nil, 0}, {"itself", x, rows(one, two), 0, Move{1, 0, 0, 1}, nil, 0},
		{"who is frozen", x, []api.Tour{tour(one, 0, 1), tour(idle)}, 0, Move{1, 0, 1, 0}, nil, 0}, {"in its own tour", x, []api.Tour{tour(one, 0, 1)}, 0, Move{1, 0, 0, 0}, nil, 0}, {"the other one is frozen", x, []api.Tour{tour(one), tour(two, 0, 2)}, 0, Move{1, 0, 1, 2}, nil, 0}, {"for one who is frozen", x, []api.Tour{tour(one, 0, 1), tour(two)}, 0, Move{1, 0, 1, 2}, nil, 0}, {"no drop", x, rows([]int{0, 1, 7}, idle), 0, Move{1, 0, 1, 0}, nil, 0},
		{"no place in a tour", lame, rows(one, idle), 0, Move{1, 0, 1, 0}, nil, 0}, {"no place for the day", slow, rows(one, idle), 0, Move{1, 0, 1, 0}, nil, 0}, {"no place for the other one", lame, rows(idle, two, one), 0, Move{1, 2, 1, 2}, nil, 0}, {"no place for the other one behind that", lame, rows(one, []int{0, 2, 5, 7}), 0, Move{2, 1, 0, 1}, nil, 0}, {"it is there already", x, rows(one, one), 0, Move{1, 0, 1, 0}, nil, 0}, {"all is frozen there", x, []api.Tour{tour(one), tour(idle, 0, 9)}, 0, Move{1, 0, 1, 0}, nil, 0},
		{"to a tour that isn't right", x, rows(one, []int{0, 2, 7}), 0, Move{1, 0, 1, 0}, nil, 0}, {"to a tour without a car", x, rows(one, two, idle, idle), 0, Move{1, 0, 3, 0}, nil, 0}, {"from a tour without a car", x, rows(idle, idle, idle, one), 0, Move{1, 3, 0, 0}, nil, 0}, {"from a tour with pins out of order", x, []api.Tour{{Seq: one, Pins: []api.Pin{{At: 1}}}, {Seq: idle}}, 0, Move{1, 0, 1, 0}, nil, 0},
		{"from a tour that isn't right without", x, rows([]int{0, 1, 4, 2, 7}, idle), 0, Move{1, 0, 1, 0}, nil, 0}, {"so too, in itself", x, rows([]int{0, 1, 4, 2, 7}, idle), 0, Move{1, 0, 0, 0}, nil, 0}, {"so too, and another one comes", x, rows([]int{0, 1, 4, 2, 7}, []int{0, 3, 6, 7}), 0, Move{1, 0, 1, 3}, nil, 0}, {"the other tour isn't", x, rows(one, []int{0, 2, 5, 3, 7}), 0, Move{1, 0, 1, 2}, nil, 0},
		{"by way of who goes", byWay, rows(both, idle), 0, Move{1, 0, 1, 0}, nil, 0}, {"by way of who changes", byWay, rows(both, []int{0, 1, 4, 3, 6, 7}), 0, Move{1, 0, 1, 3}, nil, 0}, {"a pinned tour that is too late without", byWay, []api.Tour{tour(both, 0), tour(idle)}, 0, Move{1, 0, 1, 0}, nil, 0},
		{"too late", x, rows(one, idle), 995, Move{1, 0, 1, 0}, nil, 0}, {"too late in itself", x, rows(one), 995, Move{1, 0, 0, 0}, nil, 0}, {"no such clock", x, rows(one, idle), -1, Move{1, 0, 1, 0}, nil, 0}, {"no such clock", x, rows(one, two), math.MaxInt64, Move{1, 0, 1, 2}, nil, 0},
		{"an instance that isn't right", wrong, rows(one, idle), 0, Move{1, 0, 1, 0}, nil, 0}, {"an instance of nothing", api.Instance{}, rows(one, idle), 0, Move{1, 0, 1, 0}, nil, 0},
	} {
		c.ask(t)
	}
}

// The rows and pins of what isn't turned are those that were handed in, the list of tours is new, and what was handed in stays.
func TestWhatIsShared(t *testing.T) {
	x := three()
	tours := []api.Tour{tour([]int{0, 1, 4, 7}, 0), tour([]int{0, 2, 5, 7}, 0), tour([]int{0, 3, 6, 7}, 0, 3)}
	kept := copied(tours)
	for _, m := range []Move{{1, 0, 1, 0}, {1, 0, 1, 2}, {1, 0, 0, 0}, {3, 2, 1, 0}, {}} {
		got, ok := Do(x, tours, 0, m)
		Gain(x, tours, 0, m)
		for i, one := range got {
			if i != m.From && i != m.To || !ok {
				if &one.Seq[0] != &tours[i].Seq[0] || &one.Pins[0] != &tours[i].Pins[0] {
					t.Errorf("%v: tour %d is copied", m, i)
				}
			}
		}
		clear(got[:cap(got)])
		if !sameTours(tours, kept) {
			t.Fatalf("%v: %v", m, tours)
		}
	}
}

// P19.1: a request can always go to the place where it is, if its tour is right without it.
func TestGoesWhereItIs(t *testing.T) {
	x := three()
	tours, left := regret.Seed(x, 0, []int{1, 2, 3})
	if len(left) > 0 {
		t.Fatalf("%v", left)
	}
	for car, one := range tours {
		turned{"where it is", x, tours, 0, Move{one.Seq[1], car, car, 0}, [][]int{0: tours[0].Seq}, 0}.ask(t)
	}
}
