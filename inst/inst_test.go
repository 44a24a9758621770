package inst

import (
	"math"
	"math/big"
	"math/cmplx"
	"math/rand/v2"
	"slices"
	"testing"

	"jitney/api"
	"jitney/spot"
)

func of(seats, wheels int) api.Load {
	return api.Load{Seats: seats, Wheels: wheels}
}

// two is a right instance of two requests, without a Matrix.
func two() api.Instance {
	return api.Instance{
		Cars: []api.Car{{Cap: of(4, 1), Max: 500}, {Cap: of(0, 0)}},
		Stops: []api.Stop{
			{Late: 900},
			{Load: of(1, 0), Service: 2, Early: 10, Late: 90, Spot: 1},
			{Load: of(2, 1), Service: 3, Early: 20, Late: 20, Spot: 2i},
			{Load: of(-1, 0), Service: 4, Late: 400, Spot: 3 + 4i},
			{Load: of(-2, -1), Service: 5, Early: 7, Late: 500, Spot: -6 - 8i},
			{Early: 1, Late: 900, Spot: 1 + 1i},
		},
		Rides: []int64{30, 40},
	}
}

// square is a Matrix for so many stops, with times that tell their places.
func square(stops int) [][]int64 {
	times := make([][]int64, stops)
	for i := range times {
		times[i] = make([]int64, stops)
		for j := range times[i] {
			times[i][j] = int64(100*i + j)
		}
	}
	return times
}

func timed() api.Instance {
	x := two()
	x.Matrix = square(len(x.Stops))
	return x
}

// many is a right instance of so many requests.
func many(requests int) api.Instance {
	stops := make([]api.Stop, 2*requests+2)
	return api.Instance{Cars: make([]api.Car, 1), Stops: stops, Rides: make([]int64, requests)}
}

// fault is something wrong with an instance: its place among the errors in the chapter's order, and how it comes about.
type fault struct {
	name string
	rank int
	turn func(x *api.Instance)
}

// errorsInOrder is the errors of Check, as the chapter names them.
var errorsInOrder = []api.Errno{api.ErrArg, api.ErrMany, api.ErrArg, api.ErrRange, api.ErrLoad, api.ErrArg, api.ErrRange}

// faults is what may be wrong with timed(), and with two() where that has it.
func faults() []fault {
	var list []fault
	add := func(rank int, name string, turn func(x *api.Instance)) {
		list = append(list, fault{name, rank, turn})
	}
	add(0, "no cars", func(x *api.Instance) { x.Cars = nil })
	add(0, "an empty list of cars", func(x *api.Instance) { x.Cars = []api.Car{} })
	add(1, "65 cars", func(x *api.Instance) { x.Cars = make([]api.Car, 65) })
	add(1, "4097 stops", func(x *api.Instance) { x.Stops = append(x.Stops, make([]api.Stop, 4097-len(x.Stops))...) })
	add(2, "one stop too many", func(x *api.Instance) { x.Stops = append(x.Stops, api.Stop{}) })
	add(2, "one ride too many", func(x *api.Instance) { x.Rides = append(x.Rides, 1) })
	for _, n := range []int64{-1, api.MaxTime + 1, math.MinInt64, math.MaxInt64} {
		add(3, "Max", func(x *api.Instance) { x.Cars[len(x.Cars)-1].Max = n })
		add(3, "Ride", func(x *api.Instance) { x.Rides[len(x.Rides)-1] = n })
		for i := range 6 {
			add(3, "Service", func(x *api.Instance) { x.Stops[i].Service = n })
			add(3, "Early", func(x *api.Instance) { x.Stops[i].Early = n })
			add(3, "Late", func(x *api.Instance) { x.Stops[i].Late = n })
			add(3, "both", func(x *api.Instance) { x.Stops[i].Early, x.Stops[i].Late = n, n })
		}
	}
	for i := range 6 {
		add(3, "Early above Late", func(x *api.Instance) { x.Stops[i].Early = x.Stops[i].Late + 1 })
	}
	for _, l := range []api.Load{of(-1, 0), of(0, -1), of(1001, 0), of(0, 1001)} {
		add(3, "Cap", func(x *api.Instance) { x.Cars[len(x.Cars)-1].Cap = l })
		add(4, "a pickup's Load", func(x *api.Instance) { x.Stops[1].Load = l })
		add(4, "a pickup's Load, and the drop's that takes it away", func(x *api.Instance) {
			x.Stops[2].Load, x.Stops[4].Load = l, of(-l.Seats, -l.Wheels)
		})
	}
	for _, l := range []api.Load{of(1, 0), of(0, 1), of(-1, 0), of(0, -1)} {
		add(4, "the start's Load", func(x *api.Instance) { x.Stops[0].Load = l })
		add(4, "the end's Load", func(x *api.Instance) { x.Stops[len(x.Stops)-1].Load = l })
		for i := 3; i <= 4; i++ {
			add(4, "a drop's Load", func(x *api.Instance) { x.Stops[i].Load.Seats += l.Seats; x.Stops[i].Load.Wheels += l.Wheels })
		}
	}
	add(4, "a load that may not be", func(x *api.Instance) { x.Stops[1].Load, x.Stops[3].Load = of(math.MinInt, 0), of(0, 0) })
	add(4, "drops of each other", func(x *api.Instance) {
		x.Stops[3].Load, x.Stops[4].Load = x.Stops[4].Load, x.Stops[3].Load
	})
	add(4, "the start's Service", func(x *api.Instance) { x.Stops[0].Service = 1 })
	add(4, "the end's Service", func(x *api.Instance) { x.Stops[len(x.Stops)-1].Service = api.MaxTime })
	return list
}

// matrixFaults is what may be wrong with timed()'s Matrix.
func matrixFaults() []fault {
	var list []fault
	add := func(rank int, name string, turn func(x *api.Instance)) {
		list = append(list, fault{name, rank, turn})
	}
	add(5, "a row too few", func(x *api.Instance) { x.Matrix = x.Matrix[:len(x.Matrix)-1] })
	add(5, "a row too many", func(x *api.Instance) { x.Matrix = append(x.Matrix, make([]int64, len(x.Stops))) })
	add(5, "an empty row too many", func(x *api.Instance) { x.Matrix = append(x.Matrix, nil) })
	add(5, "one row that is empty", func(x *api.Instance) { x.Matrix = [][]int64{nil} })
	for i := range 6 {
		add(5, "a time too few", func(x *api.Instance) { x.Matrix[i] = x.Matrix[i][:5] })
		add(5, "a time too many", func(x *api.Instance) { x.Matrix[i] = append(x.Matrix[i], 0) })
		add(5, "no times", func(x *api.Instance) { x.Matrix[i] = nil })
		for _, n := range []int64{-1, api.MaxTime + 1, math.MinInt64, math.MaxInt64} {
			add(6, "a time", func(x *api.Instance) { x.Matrix[i][5-i] = n })
		}
	}
	return list
}

// spotFaults is what may be wrong with two()'s spots.
func spotFaults() []fault {
	var list []fault
	for _, c := range []complex128{0.5, 0.5i, api.MaxCoord + 1, -api.MaxCoord - 1, 1i * (api.MaxCoord + 1), cmplx.NaN(), cmplx.Inf(), complex(0, math.NaN()), complex(math.Inf(-1), 0)} {
		for i := range 6 {
			list = append(list, fault{"a spot", 6, func(x *api.Instance) { x.Stops[i].Spot = c }})
		}
	}
	return list
}

func TestCheckOfRightOnes(t *testing.T) {
	edges := []func(x *api.Instance){
		func(x *api.Instance) {},
		func(x *api.Instance) { x.Cars = make([]api.Car, 64) },
		func(x *api.Instance) { x.Cars[0] = api.Car{Cap: of(1000, 1000), Max: api.MaxTime} },
		func(x *api.Instance) { x.Rides = []int64{0, api.MaxTime} },
		func(x *api.Instance) { x.Stops[1].Service = api.MaxTime },
		func(x *api.Instance) { x.Stops[2].Service = 0 },
		func(x *api.Instance) { x.Stops[0].Early, x.Stops[0].Late = 0, 0 },
		func(x *api.Instance) { x.Stops[3].Early, x.Stops[3].Late = api.MaxTime, api.MaxTime },
		func(x *api.Instance) { x.Stops[1].Load, x.Stops[3].Load = of(0, 0), of(0, 0) },
		func(x *api.Instance) { x.Stops[2].Load, x.Stops[4].Load = of(1000, 1000), of(-1000, -1000) },
		func(x *api.Instance) { x.Stops[5].Spot = complex(api.MaxCoord, -api.MaxCoord) },
		func(x *api.Instance) { x.Stops[4].Spot = complex(-api.MaxCoord, api.MaxCoord) },
		func(x *api.Instance) { x.Stops[0].Spot = complex(math.Copysign(0, -1), 0) },
		func(x *api.Instance) { *x = many(0) },
		func(x *api.Instance) { *x = many(2047) },
		func(x *api.Instance) { x.Matrix = [][]int64{} },
	}
	for i, turn := range edges {
		x := two()
		turn(&x)
		if e := Check(x); e != api.OK {
			t.Errorf("edge %d: %d", i, e)
		}
		x.Matrix = square(len(x.Stops))
		if e := Check(x); e != api.OK {
			t.Errorf("edge %d with a Matrix: %d", i, e)
		}
	}
	x := timed()
	x.Matrix[2][3], x.Matrix[4][4], x.Matrix[5][0] = api.MaxTime, 0, api.MaxTime
	if e := Check(x); e != api.OK {
		t.Errorf("times at their bounds: %d", e)
	}
}

func TestCheckOfEachFault(t *testing.T) {
	for _, f := range append(faults(), matrixFaults()...) {
		x := timed()
		f.turn(&x)
		if e := Check(x); e != errorsInOrder[f.rank] {
			t.Errorf("%s, with a Matrix: %d", f.name, e)
		}
	}
	for _, f := range append(faults(), spotFaults()...) {
		x := two()
		f.turn(&x)
		if e := Check(x); e != errorsInOrder[f.rank] {
			t.Errorf("%s, with spots: %d", f.name, e)
		}
	}
}

func TestCheckNamesTheFirstError(t *testing.T) {
	hold := func(base func() api.Instance, list []fault) {
		for _, a := range list {
			for _, b := range list {
				if a.rank >= b.rank {
					continue
				}
				// The one that is to be told is turned at last, so that the other one can't undo it.
				x := base()
				b.turn(&x)
				a.turn(&x)
				if e := Check(x); e != errorsInOrder[a.rank] {
					t.Errorf("%s (%d) and %s (%d): %d", a.name, a.rank, b.name, b.rank, e)
				}
			}
		}
	}
	hold(timed, append(faults(), matrixFaults()...))
	hold(two, append(faults(), spotFaults()...))
}

func TestCheckAsksSpotsOnlyWithoutAMatrix(t *testing.T) {
	for _, f := range spotFaults() {
		x := timed()
		f.turn(&x)
		if e := Check(x); e != api.OK {
			t.Errorf("a spot, with a Matrix: %d", e)
		}
	}
}

func TestRequests(t *testing.T) {
	for n := range 6 {
		// Only how many Rides there are counts, however many stops stand there.
		for _, stops := range []int{0, 1, 2*n + 2, 50} {
			x := api.Instance{Rides: make([]int64, n), Stops: make([]api.Stop, stops)}
			if got := Count(x); got != n {
				t.Errorf("Count of %d: %d", n, got)
			}
			for i := -3; i <= 2*n+5; i++ {
				request, pick, drop := 0, 0, 0
				if i >= 1 && i <= n {
					request, pick, drop = i, i, n+i
				} else if i > n && i <= 2*n {
					request = i - n
				}
				if r, p, d := Request(x, i), Pick(x, i), Drop(x, i); r != request || p != pick || d != drop {
					t.Errorf("%d of %d: %d %d %d, not %d %d %d", i, n, r, p, d, request, pick, drop)
				}
			}
			for _, i := range []int{math.MinInt, math.MinInt + 1, math.MaxInt - 1, math.MaxInt} {
				if r, p, d := Request(x, i), Pick(x, i), Drop(x, i); r != 0 || p != 0 || d != 0 {
					t.Errorf("%d of %d: %d %d %d", i, n, r, p, d)
				}
			}
		}
	}
}

func TestTravelBetweenSpots(t *testing.T) {
	x := two()
	x.Stops[4].Spot = 0.5
	x.Matrix = [][]int64{}
	for i, a := range x.Stops {
		for j, b := range x.Stops {
			if got := Travel(x, i, j); got != spot.Dist(a.Spot, b.Spot) {
				t.Errorf("from %d to %d: %d", i, j, got)
			}
		}
	}
	if Travel(x, 0, 3) != 5 || Travel(x, 3, 0) != 5 || Travel(x, 1, 2) != 3 || Travel(x, 4, 3) != 0 || Travel(x, 2, 2) != 0 {
		t.Error("the ways of the example")
	}
}

func TestTravelOfAMatrix(t *testing.T) {
	x := timed()
	x.Matrix[1] = x.Matrix[1][:3]
	x.Matrix[2] = nil
	x.Matrix[3] = append(x.Matrix[3], 77)
	x.Matrix = x.Matrix[:5]
	x.Matrix[4][0], x.Matrix[4][1], x.Matrix[4][2] = math.MinInt64, math.MaxInt64, -7
	for i := range x.Stops {
		for j := range x.Stops {
			want := int64(100*i + j)
			switch {
			case i == 1 && j >= 3, i == 2, i == 5:
				want = 0
			case i == 4 && j < 3:
				want = []int64{math.MinInt64, math.MaxInt64, -7}[j]
			}
			if got := Travel(x, i, j); got != want {
				t.Errorf("from %d to %d: %d, not %d", i, j, got, want)
			}
		}
	}
	// A time to a stop that isn't there is none, though the Matrix has one.
	x.Stops = x.Stops[:3]
	if Travel(x, 3, 0) != 0 || Travel(x, 0, 3) != 0 || Travel(x, 0, 2) != 2 || Travel(api.Instance{Matrix: square(2)}, 1, 1) != 0 {
		t.Error("stops that aren't there")
	}
	// One row without times is a Matrix: no distances then.
	far := two()
	far.Matrix = [][]int64{nil}
	if Travel(far, 0, 3) != 0 {
		t.Error("one empty row")
	}
}

func TestTravelToStopsThatArentThere(t *testing.T) {
	for _, x := range []api.Instance{two(), timed(), {}} {
		for _, i := range []int{math.MinInt, -1, 6, 7, math.MaxInt} {
			for _, j := range []int{math.MinInt, -1, 0, 3, 6, math.MaxInt} {
				if Travel(x, i, j) != 0 || Travel(x, j, i) != 0 {
					t.Errorf("%d and %d", i, j)
				}
			}
		}
	}
}

func TestPath(t *testing.T) {
	x := two()
	for _, c := range []struct {
		stops []int
		want  int64
	}{
		{nil, 0}, {[]int{3}, 0}, {[]int{9}, 0}, {[]int{0, 3}, 5}, {[]int{0, 1, 3, 5}, 1 + 5 + 4}, {[]int{0, 3, 0, 3}, 15}, {[]int{3, 3, 3}, 0},
		{[]int{0, 9, 3}, 0}, {[]int{0, 3, -1, 3, 0}, 10}, {[]int{math.MinInt, math.MaxInt}, 0},
	} {
		if got := Path(x, c.stops); got != c.want {
			t.Errorf("Path(%v): %d, not %d", c.stops, got, c.want)
		}
	}
}

func TestPathHoldsEachTime(t *testing.T) {
	x := timed()
	x.Matrix[0] = []int64{math.MaxInt64, math.MinInt64, api.MaxTime + 1, -api.MaxTime - 1, api.MaxTime, -api.MaxTime}
	x.Matrix[1][0] = 5
	const most = api.MaxTime
	for _, c := range []struct {
		stops []int
		want  int64
	}{
		{[]int{0, 0}, most}, {[]int{0, 1}, -most}, {[]int{0, 2}, most}, {[]int{0, 3}, -most}, {[]int{0, 4}, most}, {[]int{0, 5}, -most},
		{[]int{0, 0, 0, 0}, 3 * most}, {[]int{0, 0, 0, 1}, most}, {[]int{0, 1, 0, 1, 0}, 10 - 2*most}, {[]int{1, 0, 0}, most + 5},
		{slices.Repeat([]int{0}, 5001), 5000 * most},
	} {
		if got := Path(x, c.stops); got != c.want {
			t.Errorf("%d stops, from %v: %d, not %d", len(c.stops), c.stops[:2], got, c.want)
		}
	}
}

// shortest is Short, asked stop by stop with numbers of any size.
func shortest(x api.Instance) bool {
	exact := func(i, j int) *big.Int { return big.NewInt(Travel(x, i, j)) }
	for i := range x.Stops {
		for j := range x.Stops {
			for k := range x.Stops {
				round := new(big.Int).Add(exact(i, j), exact(j, k))
				round.Add(round, big.NewInt(x.Stops[j].Service))
				if exact(i, k).Cmp(round) > 0 {
					return false
				}
			}
		}
	}
	return true
}

func TestShortOfDrawnMatrices(t *testing.T) {
	draws := rand.New(rand.NewPCG(1, 2))
	scales := [][]int64{
		{3, 4, 5}, {0, 1}, {5, 6, 7, 10, 12}, {-1, 0, 1}, {1 << 62, 1<<62 - 1, -1 << 62, 0, 1}, {math.MaxInt64, math.MinInt64, 0},
		{math.MaxInt64, math.MaxInt64 - 1, 1, 0}, {1 << 32, 1<<32 - 1, 1<<33 - 1, 1 << 31}, {-1 << 32, 1<<32 + 1, 1, 0, 1<<32 - 1},
	}
	answers := [2]int{}
	for _, times := range scales {
		for range 3000 {
			stops := draws.IntN(4)
			x := api.Instance{Stops: make([]api.Stop, stops), Matrix: make([][]int64, 1+draws.IntN(4))}
			for i := range x.Stops {
				x.Stops[i].Service = times[draws.IntN(len(times))]
			}
			for i := range x.Matrix {
				x.Matrix[i] = make([]int64, draws.IntN(5))
				for j := range x.Matrix[i] {
					x.Matrix[i][j] = times[draws.IntN(len(times))]
				}
			}
			want := shortest(x)
			if got := Short(x); got != want {
				t.Fatalf("%+v: %v", x, got)
			}
			if want && stops > 1 {
				answers[1]++
			} else if !want {
				answers[0]++
			}
		}
	}
	if answers[0] < 1000 || answers[1] < 1000 {
		t.Errorf("hardly asked: %v", answers)
	}
}

func TestAboveOfNumbersThatGoRound(t *testing.T) {
	corners := []int64{math.MinInt64, math.MinInt64 + 1, -1 << 62, -1<<32 - 1, -1 << 32, 1 - 1<<32, -1, 0, 1, 1<<32 - 1, 1 << 32, 1<<32 + 1, 1 << 62, math.MaxInt64 - 1, math.MaxInt64}
	for _, n := range corners {
		for _, a := range corners {
			for _, b := range corners {
				for _, c := range corners {
					sum := new(big.Int).Add(big.NewInt(a), big.NewInt(b))
					sum.Add(sum, big.NewInt(c))
					if got := above(n, a, b, c); got != (big.NewInt(n).Cmp(sum) > 0) {
						t.Fatalf("above(%d, %d, %d, %d): %v", n, a, b, c, got)
					}
				}
			}
		}
	}
}

func TestShortOfDrawnSpots(t *testing.T) {
	draws := rand.New(rand.NewPCG(3, 4))
	spots := []complex128{0, 1, 2, 3 + 4i, -5i, 0.5, cmplx.NaN(), complex(api.MaxCoord, api.MaxCoord), complex(-api.MaxCoord, 0), 1 << 30}
	services := []int64{-1, 0, 1, 4, 5, 6, 1 << 25, 1 << 26, math.MaxInt64, math.MinInt64}
	answers := [2]int{}
	for range 20000 {
		x := api.Instance{Stops: make([]api.Stop, draws.IntN(5))}
		for i := range x.Stops {
			x.Stops[i].Spot = spots[draws.IntN(len(spots))]
			x.Stops[i].Service = services[draws.IntN(len(services))]
			if draws.IntN(3) > 0 {
				x.Stops[i].Service = 1 << 26
			}
		}
		want := shortest(x)
		if got := Short(x); got != want {
			t.Fatalf("%+v: %v", x, got)
		}
		if want {
			answers[1]++
		} else {
			answers[0]++
		}
	}
	if answers[0] < 1000 || answers[1] < 1000 {
		t.Errorf("hardly asked: %v", answers)
	}
}

// drawn is an instance with spots and services that are drawn from so far, and so long.
func drawn(draws *rand.Rand, requests, far int, long int64) api.Instance {
	x := many(requests)
	for i := range x.Stops {
		x.Stops[i].Spot, _ = spot.At(draws.IntN(2*far+1)-far, draws.IntN(2*far+1)-far)
		if i > 0 && i <= 2*requests {
			x.Stops[i].Service = draws.Int64N(long)
		}
	}
	return x
}

// table is the Matrix of an instance's times.
func table(x api.Instance) [][]int64 {
	times := square(len(x.Stops))
	for i := range times {
		for j := range times {
			times[i][j] = Travel(x, i, j)
		}
	}
	return times
}

func TestAnInstanceWithSpotsIsShort(t *testing.T) {
	draws := rand.New(rand.NewPCG(5, 6))
	for _, far := range []int{0, 1, 3, 1000, api.MaxCoord} {
		for range 40 {
			x := drawn(draws, draws.IntN(8), far, 2)
			if e := Check(x); e != api.OK || !Short(x) || !shortest(x) {
				t.Fatalf("%d: %+v", e, x)
			}
			for i := 1; i < len(x.Stops)-1; i++ {
				x.Stops[i].Service = draws.Int64N(api.MaxTime + 1)
			}
			if e := Check(x); e != api.OK || !Short(x) || !shortest(x) {
				t.Fatalf("another service: %d: %+v", e, x)
			}
			x.Matrix = table(x)
			if !Short(x) {
				t.Fatalf("the same times as a Matrix: %+v", x)
			}
		}
	}
}

func TestShortOfTheMost(t *testing.T) {
	draws := rand.New(rand.NewPCG(7, 8))
	x := drawn(draws, api.MaxStops/2-1, api.MaxCoord, 100)
	if e := Check(x); e != api.OK || !Short(x) {
		t.Errorf("with spots: %d", e)
	}
	for i := range x.Stops {
		x.Stops[i].Spot = cmplx.NaN()
	}
	if !Short(x) {
		t.Error("without a spot, at which all is near")
	}
	x.Stops[5].Spot, x.Stops[4000].Spot = 1000, -1000
	if Short(x) {
		t.Error("two spots, and ways by what is none")
	}
	// What would fill a memory, if it were laid out whole, is told as any other.
	x = api.Instance{Stops: make([]api.Stop, 1<<20), Matrix: [][]int64{{0, 1}}}
	if Short(x) {
		t.Error("a million stops")
	}
}

func TestShortOfAFullMatrix(t *testing.T) {
	draws := rand.New(rand.NewPCG(9, 10))
	x := drawn(draws, 59, api.MaxCoord, 2)
	x.Matrix = table(x)
	if !Short(x) {
		t.Fatal("ways of spots")
	}
	for range 30 {
		i := draws.IntN(len(x.Stops) - 1)
		k := i + 1 + draws.IntN(len(x.Stops)-1-i)
		best := int64(math.MaxInt64)
		for j, stop := range x.Stops {
			if j != i && j != k {
				best = min(best, x.Matrix[i][j]+stop.Service+x.Matrix[j][k])
			}
		}
		kept := x.Matrix[i][k]
		x.Matrix[i][k] = best + 1
		if Short(x) {
			t.Errorf("from %d to %d it is shorter by another stop, by 1", i, k)
		}
		x.Matrix[i][k] = kept
	}
}

// turns is how each part of timed() may be another one.
func turns() []func(x *api.Instance) {
	return []func(x *api.Instance){
		func(x *api.Instance) { x.Cars = x.Cars[:1] },
		func(x *api.Instance) { x.Cars = nil },
		func(x *api.Instance) { x.Cars[1].Cap.Seats++ },
		func(x *api.Instance) { x.Cars[0].Cap.Wheels-- },
		func(x *api.Instance) { x.Cars[1].Max++ },
		func(x *api.Instance) { x.Cars[0], x.Cars[1] = x.Cars[1], x.Cars[0] },
		func(x *api.Instance) { x.Stops = x.Stops[:5] },
		func(x *api.Instance) { x.Stops = append(x.Stops, api.Stop{}) },
		func(x *api.Instance) { x.Stops[5].Load.Seats-- },
		func(x *api.Instance) { x.Stops[0].Load.Wheels++ },
		func(x *api.Instance) { x.Stops[5].Service++ },
		func(x *api.Instance) { x.Stops[4].Early++ },
		func(x *api.Instance) { x.Stops[3].Late++ },
		func(x *api.Instance) { x.Stops[5].Spot += 1 },
		func(x *api.Instance) { x.Stops[0].Spot += 1i },
		func(x *api.Instance) { x.Stops[2].Spot = cmplx.NaN() },
		func(x *api.Instance) { x.Stops[2].Spot = complex(0, math.NaN()) },
		func(x *api.Instance) { x.Stops[2].Spot = complex(math.NaN(), 2) },
		func(x *api.Instance) { x.Rides = x.Rides[1:] },
		func(x *api.Instance) { x.Rides = append(x.Rides, 0) },
		func(x *api.Instance) { x.Rides[1]++ },
		func(x *api.Instance) { x.Rides[0], x.Rides[1] = x.Rides[1], x.Rides[0] },
		func(x *api.Instance) { x.Matrix = nil },
		func(x *api.Instance) { x.Matrix = x.Matrix[:5] },
		func(x *api.Instance) { x.Matrix = append(x.Matrix, nil) },
		func(x *api.Instance) { x.Matrix[5] = x.Matrix[5][:5] },
		func(x *api.Instance) { x.Matrix[5] = append(x.Matrix[5], 0) },
		func(x *api.Instance) { x.Matrix[0] = nil },
		func(x *api.Instance) { x.Matrix[5][5]++ },
		func(x *api.Instance) { x.Matrix[0][0]-- },
	}
}

func TestSame(t *testing.T) {
	if !Same(timed(), timed()) || !Same(two(), two()) || !Same(api.Instance{}, api.Instance{}) || Same(two(), timed()) {
		t.Error("the same, handed in twice")
	}
	for i, turn := range turns() {
		x := timed()
		turn(&x)
		if Same(x, timed()) || Same(timed(), x) {
			t.Errorf("turn %d", i)
		}
	}
}

func TestSameOfEmptyListsAndSpots(t *testing.T) {
	empty := api.Instance{Cars: []api.Car{}, Stops: []api.Stop{}, Rides: []int64{}, Matrix: [][]int64{}}
	if !Same(empty, api.Instance{}) || !Same(api.Instance{}, empty) {
		t.Error("nil and empty")
	}
	one, other := api.Instance{Matrix: [][]int64{nil}}, api.Instance{Matrix: [][]int64{{}}}
	if !Same(one, other) || Same(one, api.Instance{}) || Same(api.Instance{}, other) {
		t.Error("rows that are nil and empty")
	}
	at := func(c complex128) api.Instance { return api.Instance{Stops: []api.Stop{{Spot: c}}} }
	for _, c := range []complex128{cmplx.NaN(), complex(math.NaN(), 0), complex(0, math.NaN()), complex(math.Inf(1), math.NaN())} {
		x := at(c)
		if Same(x, x) || Same(x, at(0)) || Same(at(c), x) {
			t.Errorf("%v", c)
		}
	}
	for _, c := range []complex128{0, 0.5, cmplx.Inf(), complex(math.Inf(-1), 3), 1 << 60} {
		if !Same(at(c), at(c)) {
			t.Errorf("%v", c)
		}
	}
	if !Same(at(complex(math.Copysign(0, -1), math.Copysign(0, -1))), at(0)) {
		t.Error("0 and -0")
	}
}

func TestCallsOfNothing(t *testing.T) {
	var x api.Instance
	if Count(x) != 0 || Request(x, 0) != 0 || Pick(x, 0) != 0 || Drop(x, 1) != 0 || Check(x) != api.ErrArg || Travel(x, 0, 0) != 0 || Path(x, []int{0, 0}) != 0 || !Short(x) || !Same(x, x) {
		t.Error("an instance of nothing")
	}
}

func TestNothingHandedInIsChanged(t *testing.T) {
	for _, base := range []func() api.Instance{two, timed} {
		x := base()
		// Memory behind a list's length is none of a call's business either.
		x.Matrix = append(x.Matrix, []int64{1, 2, 3})[:len(x.Matrix)]
		if len(x.Matrix) > 0 {
			x.Matrix[2] = x.Matrix[2][:3]
		}
		stops := []int{0, 1, 2, 9}
		Check(x)
		Count(x)
		Request(x, 1)
		Pick(x, 1)
		Drop(x, 1)
		Travel(x, 2, 5)
		Path(x, stops[:3])
		Short(x)
		Same(x, x)
		want := base()
		if len(want.Matrix) > 0 {
			if row := x.Matrix[2][:6]; !slices.Equal(row, want.Matrix[2]) {
				t.Errorf("behind a row: %v", row)
			}
			want.Matrix[2] = want.Matrix[2][:3]
		}
		if !Same(x, want) || !slices.Equal(stops, []int{0, 1, 2, 9}) {
			t.Errorf("%+v", x)
		}
	}
}
