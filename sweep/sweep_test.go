package sweep

import (
	"math"
	"math/rand/v2"
	"slices"
	"testing"

	"jitney/api"
	"jitney/inst"
	"jitney/spot"
)

// lying is an instance of a car, with the start's depot and pickups at these places.
func lying(depot complex128, picks ...complex128) api.Instance {
	n := len(picks)
	x := api.Instance{Cars: make([]api.Car, 1), Rides: make([]int64, n), Stops: make([]api.Stop, 2*n+2)}
	x.Stops[0].Spot = depot
	for i, c := range picks {
		x.Stops[i+1].Spot = c
		x.Stops[n+i+1].Spot = c + 100 // where the drops lie doesn't matter
	}
	return x
}

// P17.1: the order of requests, told by hand.
func TestOrderByHand(t *testing.T) {
	round := lying(0, -1i, 1, -1, 1i)
	apart := lying(3+4i, 3+3i, 4+4i, 2+4i, 3+5i)
	odd := lying(0, 1i, 0.5, 2, complex(math.NaN(), 0), api.MaxCoord+1, complex(0, math.Inf(-1)), 1)
	alike := lying(0, 1i, 2, 1i, 0, 2, 0, 1)
	lost, few, none := lying(0.5, -1i, 1, -1, 1i), lying(0, -1i, 1, -1, 1i), lying(0, -1i, 1, -1, 1i)
	few.Stops, none.Stops = few.Stops[:3], nil
	timed, ragged := lying(0, -1i, 1, -1, 1i), lying(0, -1i, 1, -1, 1i)
	timed.Matrix, ragged.Matrix = make([][]int64, 10), [][]int64{nil}
	empty := lying(0, -1i, 1, -1, 1i)
	empty.Matrix = [][]int64{}
	for _, c := range []struct {
		what       string
		x          api.Instance
		list, want []int
	}{
		{"nobody", round, nil, nil}, {"nobody", round, []int{}, nil}, {"one", round, []int{3}, []int{3}},
		{"all", round, []int{1, 2, 3, 4}, []int{2, 4, 3, 1}}, {"the other way round", round, []int{4, 3, 2, 1}, []int{2, 4, 3, 1}}, {"some", round, []int{1, 4}, []int{4, 1}},
		{"twice", round, []int{4, 4, 2, 4, 2}, []int{2, 4}}, {"others", round, []int{0, 5, -1, 2, math.MinInt, 9, math.MaxInt, 1}, []int{2, 1}}, {"none but others", round, []int{0, 5, -1, 10}, nil},
		{"another depot", apart, []int{1, 2, 3, 4}, []int{2, 4, 3, 1}},
		{"who lie nowhere", odd, []int{7, 6, 5, 4, 3, 2, 1}, []int{7, 3, 1, 2, 4, 5, 6}},
		{"alike", alike, []int{7, 6, 5, 4, 3, 2, 1}, []int{4, 6, 7, 2, 5, 1, 3}}, {"alike", alike, []int{3, 1, 5, 2}, []int{2, 5, 1, 3}},
		{"the depot lies nowhere", lost, []int{4, 2, 3, 1}, []int{1, 2, 3, 4}},
		{"pickups that aren't there", few, []int{4, 3, 2, 1}, []int{2, 1, 3, 4}}, {"no stops", none, []int{3, 4, 1}, []int{1, 3, 4}},
		{"a Matrix", timed, []int{4, 1, 3, 1, 7}, []int{1, 3, 4}}, {"a Matrix of a row", ragged, []int{4, 1, 3, 0}, []int{1, 3, 4}}, {"a Matrix of none", empty, []int{4, 1, 3}, []int{4, 3, 1}},
		{"nothing at all", api.Instance{}, []int{1, 0}, nil},
	} {
		if got := Order(c.x, c.list); !slices.Equal(got, c.want) {
			t.Errorf("%s: %v, not %v", c.what, got, c.want)
		}
	}
}

// drawn is an instance whose pickups lie near the depot, some of them nowhere, and a list of requests and others.
func drawn(draws *rand.Rand) (api.Instance, []int) {
	somewhere := func() complex128 {
		return complex(float64(draws.IntN(5)-2), float64(draws.IntN(5)-2)) / complex(float64(max(1, draws.IntN(20)-17)), 0)
	}
	picks := make([]complex128, draws.IntN(12))
	for i := range picks {
		picks[i] = somewhere()
	}
	x := lying(somewhere(), picks...)
	x.Stops = x.Stops[:max(0, len(x.Stops)-draws.IntN(2)*draws.IntN(len(x.Stops)+1))]
	list := make([]int, draws.IntN(16))
	for i := range list {
		list[i] = draws.IntN(len(picks)+3) - 1
	}
	return x, list
}

// comesFirst tells whether one request of an instance comes ahead of another one, by the chapter's words.
func comesFirst(x api.Instance, a, b int) bool {
	if len(x.Stops) == 0 || !spot.Good(x.Stops[0].Spot) {
		return a < b
	}
	here := func(request int) bool { return request < len(x.Stops) && spot.Good(x.Stops[request].Spot) }
	if !here(a) || !here(b) {
		return here(a) || !here(b) && a < b
	}
	depot, p, q := x.Stops[0].Spot, x.Stops[a].Spot, x.Stops[b].Spot
	return spot.Before(depot, p, q) || p == q && a < b
}

// P17.1: of drawn lists each request stands once, and each two as they must.
func TestOrderOfDrawnLists(t *testing.T) {
	draws := rand.New(rand.NewPCG(1, 2))
	for range 20000 {
		x, list := drawn(draws)
		got := Order(x, list)
		for request := -1; request < len(x.Rides)+2; request++ {
			is := slices.Contains(list, request) && request >= 1 && request <= len(x.Rides)
			if slices.Contains(got, request) != is {
				t.Fatalf("%+v, %v: %v", x, list, got)
			}
		}
		for i, b := range got {
			for _, a := range got[:i] {
				if a == b || !comesFirst(x, a, b) {
					t.Fatalf("%+v, %v: %v, %d ahead of %d", x, list, got, a, b)
				}
			}
		}
	}
}

// P17.1, P17.2: the parts of lists of all small lengths.
func TestParts(t *testing.T) {
	for n := range 14 {
		list := make([]int, n)
		for i := range list {
			list[i] = 5 - i%7
		}
		for _, m := range []int{math.MinInt, -2, -1, 0, 1, 2, 3, 4, 5, 6, 7, 8, 9, 10, 11, 12, 13, 14, 15, 100} {
			got, many := Parts(list, m), max(m, 1)
			if len(got) != many || !slices.Equal(slices.Concat(got...), list) {
				t.Fatalf("%d in %d parts: %v", n, m, got)
			}
			for i, part := range got {
				want := n / many
				if i < n%many {
					want++
				}
				if len(part) != want {
					t.Fatalf("%d in %d parts: %v", n, m, got)
				}
			}
		}
	}
	for _, c := range []struct {
		list []int
		m    int
		want [][]int
	}{{[]int{9, -9, 9, 0, 7}, 2, [][]int{{9, -9, 9}, {0, 7}}}, {[]int{3, 1}, 3, [][]int{{3}, {1}, {}}}, {nil, 2, [][]int{{}, {}}}, {nil, 0, [][]int{{}}}, {[]int{1, 2, 3, 4, 5, 6, 7}, 3, [][]int{{1, 2, 3}, {4, 5}, {6, 7}}}} {
		if got := Parts(c.list, c.m); !slices.EqualFunc(got, c.want, slices.Equal) {
			t.Errorf("%v in %d parts: %v", c.list, c.m, got)
		}
	}
}

// P1: more parts than anything is promised of are no panic.
func TestTooManyParts(t *testing.T) {
	for _, m := range []int{math.MaxInt32 + 1, math.MaxInt - 1, math.MaxInt} {
		if got := Parts([]int{1, 2}, m); len(got) != 0 {
			t.Errorf("%d: %d parts", m, len(got))
		}
	}
	const many = 1 << 20
	if got := Parts([]int{1, 2}, many); len(got) != many || !slices.Equal(got[1], []int{2}) || len(got[many-1]) != 0 {
		t.Errorf("%d parts", len(got))
	}
}

// P17.1, P17.2: as many clusters as cars, which are the order.
func TestClusters(t *testing.T) {
	x := lying(0, -1i, 1, -1, 1i, 2)
	for _, c := range []struct {
		cars int
		want [][]int
	}{{0, [][]int{{2, 5, 4, 3, 1}}}, {1, [][]int{{2, 5, 4, 3, 1}}}, {2, [][]int{{2, 5, 4}, {3, 1}}}, {3, [][]int{{2, 5}, {4, 3}, {1}}}, {7, [][]int{{2}, {5}, {4}, {3}, {1}, {}, {}}}} {
		x.Cars = make([]api.Car, c.cars)
		if got := Clusters(x, []int{5, 1, 4, 9, 2, 3, 2}); !slices.EqualFunc(got, c.want, slices.Equal) {
			t.Errorf("%d cars: %v", c.cars, got)
		}
	}
	if got := Clusters(x, []int{0, 6}); len(got) != 7 || len(slices.Concat(got...)) != 0 {
		t.Errorf("nobody: %v", got)
	}
	if got := Clusters(api.Instance{}, []int{1}); len(got) != 1 || len(got[0]) != 0 {
		t.Errorf("nothing: %v", got)
	}
	x.Cars, x.Matrix = make([]api.Car, 2), [][]int64{nil}
	if got := Clusters(x, []int{5, 1, 4, 2}); !slices.EqualFunc(got, [][]int{{1, 2}, {4, 5}}, slices.Equal) {
		t.Errorf("a Matrix: %v", got)
	}
	draws := rand.New(rand.NewPCG(3, 4))
	for range 2000 {
		x, list := drawn(draws)
		x.Cars = make([]api.Car, draws.IntN(5))
		got := Clusters(x, list)
		if len(got) != max(1, len(x.Cars)) || !slices.Equal(slices.Concat(got...), Order(x, list)) || len(got[0])-len(got[len(got)-1]) > 1 {
			t.Fatalf("%+v, %v: %v", x, list, got)
		}
	}
}

// P17.1: how far requests lie apart, there and back, by hand.
func TestSpreadByHand(t *testing.T) {
	far := lying(9, 0, 3+4i, 3, 0.5)
	timed := lying(0, 0, 0, 0)
	timed.Matrix = [][]int64{{9, 9, 9, 9}, {9, 2, 10, 100}, {9, 20, 4, math.MaxInt64}, {9, 200, -5, math.MinInt64}}
	short := timed
	short.Matrix = [][]int64{{}, {9, 9, 7}, {9}}
	few := lying(0, 0, 5, 7)
	few.Stops = few.Stops[:3]
	for _, c := range []struct {
		what string
		x    api.Instance
		list []int
		want int64
	}{
		{"nobody", far, nil, 0}, {"one", far, []int{2}, 0}, {"two", far, []int{1, 2}, 10}, {"the other way round", far, []int{2, 1}, 10}, {"all", far, []int{1, 2, 3}, 18}, {"by another way", far, []int{2, 1, 3, 2}, 24},
		{"others between", far, []int{0, 1, 9, -3, 5, 2, math.MaxInt, math.MinInt}, 10}, {"others alone", far, []int{0, 5, -1}, 0}, {"one who lies nowhere", far, []int{2, 4, 1}, 0}, {"twice", far, []int{2, 2, 1, 1}, 10},
		{"a Matrix", timed, []int{1, 2}, 30}, {"a Matrix, the other way round", timed, []int{2, 1}, 30}, {"one twice", timed, []int{1, 1}, 4}, {"a great time", timed, []int{2, 3}, api.MaxTime}, {"a small time", timed, []int{3, 3}, 0},
		{"all", timed, []int{1, 2, 3, 1}, 30 + api.MaxTime + 300}, {"times that aren't there", short, []int{1, 2, 3, 1}, 7}, {"stops that aren't there", few, []int{1, 2, 3, 2}, 10}, {"nothing at all", api.Instance{}, []int{1, 2}, 0},
	} {
		if got := Spread(c.x, c.list); got != c.want {
			t.Errorf("%s: %d, not %d", c.what, got, c.want)
		}
	}
}

// P17.1: the spread of drawn lists is that of the requests alone, pair by pair.
func TestSpreadOfDrawnLists(t *testing.T) {
	draws := rand.New(rand.NewPCG(5, 6))
	for range 5000 {
		x, list := drawn(draws)
		if draws.IntN(2) == 0 {
			for range len(x.Stops) {
				times := make([]int64, len(x.Stops))
				for i := range times {
					times[i] = draws.Int64N(100) - 10
				}
				x.Matrix = append(x.Matrix, times)
			}
		}
		var some []int
		for _, request := range list {
			if request >= 1 && request <= len(x.Rides) {
				some = append(some, request)
			}
		}
		var want int64
		for i := range len(some) - 1 {
			want += max(0, inst.Travel(x, some[i], some[i+1])) + max(0, inst.Travel(x, some[i+1], some[i]))
		}
		if got := Spread(x, list); got != want {
			t.Fatalf("%+v, %v: %d, not %d", x, list, got, want)
		}
	}
}

// A sum that no int64 holds doesn't go round; one that it holds is told whole.
func TestSpreadOfMany(t *testing.T) {
	x := lying(0, 0)
	x.Matrix = [][]int64{nil, {0, api.MaxTime}}
	list := slices.Repeat([]int{1}, 1<<22+2)
	for _, c := range []struct {
		pairs int
		want  int64
	}{{1, 2 * api.MaxTime}, {1<<22 - 1, math.MaxInt64 - 2*api.MaxTime + 1}, {1 << 22, math.MaxInt64}, {1<<22 + 1, math.MaxInt64}} {
		if got := Spread(x, list[:c.pairs+1]); got != c.want {
			t.Errorf("%d pairs: %d, not %d", c.pairs, got, c.want)
		}
	}
}

// What is handed in stays as it is, and what is answered is new memory, spare room too.
func TestListsShareNothing(t *testing.T) {
	for _, matrix := range [][][]int64{nil, {nil}} {
		x := lying(0, -1i, 1, -1, 1i)
		x.Cars, x.Matrix = make([]api.Car, 2), matrix
		all := []int{4, 0, 2, 2, 1, 3, 9, 8, 7}
		list, kept := all[:6], slices.Clone(all)
		lists := [][]int{Order(x, list), Order(x, list)}
		lists = append(lists, Parts(list, 3)...)
		lists = append(lists, Clusters(x, list)...)
		Spread(x, list)
		for i, one := range lists {
			for j := range one[:cap(one)] {
				one[:cap(one)][j] = 100 + i
			}
		}
		for i, one := range lists {
			for _, number := range one {
				if number != 100+i {
					t.Errorf("list %d shares %v", i, one)
				}
			}
		}
		if !slices.Equal(all, kept) {
			t.Errorf("%v", all)
		}
	}
}
