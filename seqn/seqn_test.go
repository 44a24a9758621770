package seqn

import (
	"math"
	"math/rand/v2"
	"slices"
	"testing"

	"jitney/api"
)

func of(seats, wheels int) api.Load {
	return api.Load{Seats: seats, Wheels: wheels}
}

// asking is a right instance whose requests have these loads, with a car for each of the rooms.
func asking(loads []api.Load, rooms ...api.Load) api.Instance {
	n := len(loads)
	x := api.Instance{Stops: make([]api.Stop, 2*n+2), Rides: make([]int64, n)}
	for i, l := range loads {
		x.Stops[i+1].Load = l
		x.Stops[n+i+1].Load = of(-l.Seats, -l.Wheels)
	}
	for _, room := range rooms {
		x.Cars = append(x.Cars, api.Car{Cap: room})
	}
	return x
}

// two is a right instance: a seat for one request, a seat and a wheelchair's place for the other one.
func two() api.Instance {
	return asking([]api.Load{of(1, 0), of(1, 1)}, of(2, 1), of(1, 1), of(2, 0), of(0, 0))
}

// three is a right instance whose requests ask for 1, 2 and 3 seats.
func three() api.Instance {
	return asking([]api.Load{of(1, 0), of(2, 0), of(3, 0)}, of(1000, 1000), of(3, 0), of(5, 0))
}

// odd is instances that aren't right: the calls that don't ask that answer of them, too.
func odd() []api.Instance {
	few, many := two(), two()
	few.Stops = few.Stops[:2]
	many.Stops = append(many.Stops, api.Stop{Load: of(7, 7)}, api.Stop{Load: of(8, 8)})
	wild := two()
	wild.Stops[1].Load = of(math.MinInt, math.MaxInt)
	return []api.Instance{{}, few, many, wild, {Rides: make([]int64, 2)}, {Stops: make([]api.Stop, 6)}}
}

// rows calls with all rows of up to so many stops, from one number up to another one.
func rows(most, low, high int, call func(seq []int)) {
	var longer func(seq []int)
	longer = func(seq []int) {
		call(seq)
		if len(seq) == most {
			return
		}
		for stop := low; stop <= high; stop++ {
			longer(append(slices.Clone(seq), stop))
		}
	}
	longer(nil)
}

// count is how often a stop stands in a row.
func count(seq []int, stop int) int {
	many := 0
	for _, s := range seq {
		if s == stop {
			many++
		}
	}
	return many
}

// wanted is what Check must tell of a row of a right instance and a car that is there, said stop by stop.
func wanted(x api.Instance, car int, seq []int) api.Errno {
	n, k := len(x.Rides), len(seq)
	if k < 2 || seq[0] != 0 || seq[k-1] != 2*n+1 {
		return api.ErrDepot
	}
	inner := seq[1 : k-1]
	for _, stop := range inner {
		if stop < 1 || stop > 2*n || count(inner, stop) > 1 {
			return api.ErrNode
		}
	}
	for i, stop := range inner {
		ahead, behind := inner[:i], inner[i+1:]
		if stop > n && count(ahead, stop-n) == 0 || stop <= n && count(behind, stop+n) == 0 {
			return api.ErrPair
		}
	}
	room := x.Cars[car].Cap
	for i := range inner {
		seats, wheels := 0, 0
		for _, stop := range inner[:i+1] {
			seats += x.Stops[stop].Load.Seats
			wheels += x.Stops[stop].Load.Wheels
		}
		if seats > room.Seats || wheels > room.Wheels {
			return api.ErrLoad
		}
	}
	return api.OK
}

// P9.1: Check of all short rows.
func TestCheckOfAllShortRows(t *testing.T) {
	told := map[api.Errno]int{}
	hold := func(x api.Instance, seq []int) {
		for car := range x.Cars {
			want := wanted(x, car, seq)
			if e := Check(x, car, seq); e != want {
				t.Fatalf("car %d, %v: %d, not %d", car, seq, e, want)
			}
			told[want]++
		}
	}
	rows(5, -1, 6, func(seq []int) { hold(two(), seq) })
	rows(4, 0, 5, func(seq []int) { hold(two(), slices.Concat([]int{0}, seq, []int{5})) })
	rows(6, 1, 6, func(seq []int) { hold(three(), slices.Concat([]int{0}, seq, []int{7})) })
	rows(4, -1, 2, func(seq []int) { hold(asking(nil, of(0, 0)), seq) })
	rows(6, -1, 4, func(seq []int) { hold(asking([]api.Load{of(0, 0)}, of(0, 0)), seq) })
	for _, e := range []api.Errno{api.OK, api.ErrDepot, api.ErrNode, api.ErrPair, api.ErrLoad} {
		if told[e] < 20 {
			t.Errorf("error %d hardly asked for: %d", e, told[e])
		}
	}
}

// P9.1: each error alone, and ahead of those that are named behind it.
func TestCheckNamesTheFirstError(t *testing.T) {
	x := three()
	for _, c := range []struct {
		car  int
		seq  []int
		want api.Errno
	}{
		{0, []int{0, 7}, api.OK}, {0, []int{0, 1, 2, 4, 3, 5, 6, 7}, api.OK}, {0, []int{0, 3, 2, 1, 6, 5, 4, 7}, api.OK},
		{1, []int{0, 1, 2, 4, 5, 3, 6, 7}, api.OK}, {2, []int{0, 2, 3, 5, 6, 7}, api.OK},
		{-1, []int{0, 7}, api.ErrArg}, {3, []int{0, 7}, api.ErrArg}, {math.MinInt, nil, api.ErrArg}, {math.MaxInt, []int{9, 9}, api.ErrArg},
		{0, nil, api.ErrDepot}, {0, []int{}, api.ErrDepot}, {0, []int{0}, api.ErrDepot}, {0, []int{7}, api.ErrDepot},
		{0, []int{7, 0}, api.ErrDepot}, {0, []int{0, 0}, api.ErrDepot}, {0, []int{7, 7}, api.ErrDepot}, {0, []int{0, 1, 4}, api.ErrDepot}, {0, []int{1, 4, 7}, api.ErrDepot},
		{0, []int{0, 99, 1, 1, 3}, api.ErrDepot},
		{0, []int{0, 0, 7}, api.ErrNode}, {0, []int{0, 7, 7}, api.ErrNode}, {0, []int{0, 8, 7}, api.ErrNode}, {0, []int{0, -1, 7}, api.ErrNode},
		{0, []int{0, math.MinInt, 7}, api.ErrNode}, {0, []int{0, math.MaxInt, 7}, api.ErrNode},
		{0, []int{0, 1, 1, 4, 7}, api.ErrNode}, {0, []int{0, 1, 4, 4, 7}, api.ErrNode}, {0, []int{0, 1, 4, 1, 4, 7}, api.ErrNode},
		{0, []int{0, 4, 1, 4, 7}, api.ErrNode}, {0, []int{0, 5, 1, 8, 7}, api.ErrNode}, {1, []int{0, 3, 2, 1, 0, 7}, api.ErrNode},
		{0, []int{0, 1, 7}, api.ErrPair}, {0, []int{0, 4, 7}, api.ErrPair}, {0, []int{0, 4, 1, 7}, api.ErrPair}, {0, []int{0, 1, 5, 7}, api.ErrPair},
		{0, []int{0, 1, 4, 2, 7}, api.ErrPair}, {0, []int{0, 1, 5, 2, 4, 7}, api.ErrPair}, {1, []int{0, 3, 2, 6, 7}, api.ErrPair},
		{1, []int{0, 2, 3, 5, 6, 7}, api.ErrLoad}, {1, []int{0, 1, 3, 4, 6, 7}, api.ErrLoad}, {2, []int{0, 1, 2, 3, 4, 5, 6, 7}, api.ErrLoad},
	} {
		if e := Check(x, c.car, c.seq); e != c.want {
			t.Errorf("car %d, %v: %d, not %d", c.car, c.seq, e, c.want)
		}
	}
}

// P9.1: of an instance that isn't right there is no row, however it may be.
func TestCheckOfInstancesThatArentRight(t *testing.T) {
	turns := []func(x *api.Instance){
		func(x *api.Instance) { x.Cars = nil },
		func(x *api.Instance) { x.Stops = x.Stops[:5] },
		func(x *api.Instance) { x.Stops = append(x.Stops, api.Stop{}) },
		func(x *api.Instance) { x.Rides = x.Rides[:1] },
		func(x *api.Instance) { x.Rides[0] = -1 },
		func(x *api.Instance) { x.Cars[3].Max = -1 },
		func(x *api.Instance) { x.Stops[1].Early = 1 },
		func(x *api.Instance) { x.Stops[3].Load = of(0, 0) },
		func(x *api.Instance) { x.Stops[4].Spot = 0.5 },
		func(x *api.Instance) { x.Matrix = [][]int64{nil} },
	}
	for i, turn := range turns {
		x := two()
		turn(&x)
		for _, seq := range [][]int{nil, {0, 5}, {0, 1, 3, 5}, {0, 3, 1, 5}, {0, 9, 5}, {5, 0}} {
			if e := Check(x, 0, seq); e != api.ErrArg {
				t.Errorf("turn %d, %v: %d", i, seq, e)
			}
		}
	}
	for i, x := range odd() {
		if e := Check(x, 0, Empty(x)); e != api.ErrArg {
			t.Errorf("odd %d: %d", i, e)
		}
	}
	x := two()
	x.Matrix = make([][]int64, 6)
	for i := range x.Matrix {
		x.Matrix[i] = make([]int64, 6)
	}
	if e := Check(x, 0, []int{0, 1, 3, 5}); e != api.OK {
		t.Errorf("with a Matrix: %d", e)
	}
}

// P9.1: seats and wheelchairs are held against the car's, each at its bound.
func TestCheckOfLoads(t *testing.T) {
	seq := []int{0, 1, 2, 4, 3, 5}
	for _, c := range []struct {
		room api.Load
		want api.Errno
	}{
		{of(5, 7), api.OK}, {of(1000, 1000), api.OK}, {of(4, 7), api.ErrLoad}, {of(5, 6), api.ErrLoad}, {of(1000, 6), api.ErrLoad}, {of(4, 1000), api.ErrLoad}, {of(0, 0), api.ErrLoad},
	} {
		x := asking([]api.Load{of(2, 4), of(3, 3)}, of(0, 0), c.room, of(1000, 1000))
		if e := Check(x, 1, seq); e != c.want {
			t.Errorf("room %v: %d, not %d", c.room, e, c.want)
		}
	}
	// Who asks for nothing finds room in every car.
	x := asking([]api.Load{of(0, 0), of(0, 0)}, of(0, 0))
	if e := Check(x, 0, seq); e != api.OK {
		t.Errorf("nobody: %d", e)
	}
}

// P9.1: the longest row that there is, and rows that are longer than all stops.
func TestCheckOfLongRows(t *testing.T) {
	n := api.MaxStops/2 - 1
	x := asking(slices.Repeat([]api.Load{of(1, 0)}, n), of(1000, 0), of(1, 0))
	var nested, turns []int
	for i := range n {
		turns = append(turns, n-i, 2*n-i)
		nested = append(nested, i+1)
	}
	for i := range n {
		nested = append(nested, 2*n-i)
	}
	whole := func(inner []int) []int { return slices.Concat([]int{0}, inner, []int{2*n + 1}) }
	for i, c := range []struct {
		car  int
		seq  []int
		want api.Errno
	}{
		{1, whole(turns), api.OK}, {0, whole(turns), api.OK}, {0, whole(nested), api.ErrLoad}, {0, whole(nested[1:]), api.ErrPair}, {0, whole(nested[:2*n-1]), api.ErrPair},
		{0, whole(nested[n-1000 : n+1000]), api.OK}, {0, whole(nested[n-1001 : n+1001]), api.ErrLoad},
		{0, whole(slices.Repeat([]int{1, n + 1}, 100000)), api.ErrNode}, {0, whole(append(turns, 1)), api.ErrNode}, {0, turns, api.ErrDepot},
	} {
		if e := Check(x, c.car, c.seq); e != c.want {
			t.Errorf("case %d: %d, not %d", i, e, c.want)
		}
	}
}

// P9.1: Served, Loads, Where and Pair of all short rows, of right instances and of others.
func TestWhatStandsInARow(t *testing.T) {
	for i, x := range append(odd(), two(), three()) {
		n := len(x.Rides)
		rows(4, -1, 8, func(seq []int) {
			var served []int
			for _, stop := range seq {
				if stop >= 1 && stop <= n && count(served, stop) == 0 {
					served = append(served, stop)
				}
			}
			if got := Served(x, seq); !slices.Equal(got, served) {
				t.Fatalf("instance %d: Served of %v: %v", i, seq, got)
			}
			tellLoads(t, x, seq)
			for request := -2; request <= n+2; request++ {
				tellPair(t, x, seq, request)
			}
		})
	}
}

func tellLoads(t *testing.T, x api.Instance, seq []int) {
	t.Helper()
	loads := Loads(x, seq)
	if len(loads) != len(seq) {
		t.Fatalf("Loads of %v: %v", seq, loads)
	}
	for k, stop := range seq {
		want := of(0, 0)
		if stop >= 0 && stop < len(x.Stops) {
			want = x.Stops[stop].Load
		}
		if loads[k] != want {
			t.Fatalf("Loads of %v: %v", seq, loads)
		}
	}
}

// first is the first place of a stop, said by the rows ahead of it.
func first(seq []int, stop int) int {
	for i := range seq {
		if seq[i] == stop && count(seq[:i], stop) == 0 {
			return i
		}
	}
	return -1
}

func tellPair(t *testing.T, x api.Instance, seq []int, request int) {
	t.Helper()
	if got := Where(seq, request); got != first(seq, request) {
		t.Fatalf("Where(%v, %d): %d", seq, request, got)
	}
	pick, drop := -1, -1
	if request >= 1 && request <= len(x.Rides) && count(seq, request) > 0 && count(seq, request+len(x.Rides)) > 0 {
		pick, drop = first(seq, request), first(seq, request+len(x.Rides))
	}
	if a, b := Pair(x, seq, request); a != pick || b != drop {
		t.Fatalf("Pair(%v, %d): %d, %d, not %d, %d", seq, request, a, b, pick, drop)
	}
}

// P9.1: the examples, and numbers far beyond all stops.
func TestWhatStandsInARowOfAnyNumbers(t *testing.T) {
	x := two()
	if got := Served(x, []int{0, 1, 2, 4, 3, 5}); !slices.Equal(got, []int{1, 2}) {
		t.Errorf("Served: %v", got)
	}
	if got := Served(x, []int{2, 4, 2, 1, 2, 1, 3}); !slices.Equal(got, []int{2, 1}) {
		t.Errorf("Served, of stops that stand twice: %v", got)
	}
	if a, b := Pair(x, []int{0, 4, 2, 2, 4, 5}, 2); a != 2 || b != 1 {
		t.Errorf("Pair, the drop ahead: %d, %d", a, b)
	}
	wild := []int{math.MinInt, -1, 6, math.MaxInt, math.MaxInt - 1, 1 << 32}
	if got := Served(x, wild); len(got) != 0 {
		t.Errorf("Served: %v", got)
	}
	if got := Loads(x, wild); len(got) != 6 || slices.ContainsFunc(got, func(l api.Load) bool { return l != of(0, 0) }) {
		t.Errorf("Loads: %v", got)
	}
	for i, stop := range wild {
		if Where(wild, stop) != i {
			t.Errorf("Where of %d", stop)
		}
		if a, b := Pair(x, wild, stop); a != -1 || b != -1 {
			t.Errorf("Pair of %d: %d, %d", stop, a, b)
		}
		row := []int{0, 1, 3, 5}
		if got := Without(x, row, stop); !slices.Equal(got, row) {
			t.Errorf("Without %d: %v", stop, got)
		}
		if got := With(x, row, stop, 1, 2); !slices.Equal(got, row) {
			t.Errorf("With %d: %v", stop, got)
		}
		if got := With(x, row, 2, stop, 2); stop > 0 && !slices.Equal(got, row) {
			t.Errorf("With a %d: %v", stop, got)
		}
		if got := With(x, row, 2, 1, stop); !slices.Equal(got, row) {
			t.Errorf("With b %d: %v", stop, got)
		}
	}
}

// P9.1: the row of both depots.
func TestEmpty(t *testing.T) {
	for n := range 5 {
		x := asking(make([]api.Load, n), of(0, 0))
		if got := Empty(x); !slices.Equal(got, []int{0, 2*n + 1}) || Check(x, 0, got) != api.OK {
			t.Errorf("of %d requests: %v", n, got)
		}
	}
	if got := Empty(api.Instance{}); !slices.Equal(got, []int{0, 1}) {
		t.Errorf("of nothing: %v", got)
	}
}

// P9.1: Without takes both stops wherever they stand, and no others.
func TestWithout(t *testing.T) {
	for _, x := range append(odd(), two(), three()) {
		n := len(x.Rides)
		rows(4, -1, 8, func(seq []int) {
			for request := -1; request <= n+2; request++ {
				var want []int
				for _, stop := range seq {
					if request < 1 || request > n || stop != request && stop != request+n {
						want = append(want, stop)
					}
				}
				if got := Without(x, seq, request); !slices.Equal(got, want) {
					t.Fatalf("of %d requests, Without(%v, %d): %v", n, seq, request, got)
				}
			}
		})
	}
}

// placed tells whether a row is another one with a pickup at place a and its drop at place b, said place by place.
func placed(row, old []int, pick, drop, a, b int) bool {
	if len(row) != len(old)+2 || row[a] != pick || row[b] != drop {
		return false
	}
	next := 0
	for i, stop := range row {
		if i == a || i == b {
			continue
		}
		if stop != old[next] {
			return false
		}
		next++
	}
	return true
}

// P9.1, P9.2: With puts both stops just where they are to be, Without takes them again.
func TestWith(t *testing.T) {
	for _, x := range append(odd(), two(), three()) {
		n, put := len(x.Rides), 0
		rows(4, 0, 5, func(seq []int) {
			for request := -1; request <= n+2; request++ {
				for a := -2; a <= len(seq)+3; a++ {
					for b := -2; b <= len(seq)+3; b++ {
						row := With(x, seq, request, a, b)
						if request < 1 || request > n || a < 1 || b <= a || b > len(seq) {
							if !slices.Equal(row, seq) {
								t.Fatalf("With(%v, %d, %d, %d): %v", seq, request, a, b, row)
							}
							continue
						}
						put++
						if !placed(row, seq, request, request+n, a, b) {
							t.Fatalf("With(%v, %d, %d, %d): %v", seq, request, a, b, row)
						}
						if back := Without(x, row, request); count(seq, request)+count(seq, request+n) == 0 && !slices.Equal(back, seq) {
							t.Fatalf("With(%v, %d, %d, %d), and then Without: %v", seq, request, a, b, back)
						}
					}
				}
			}
		})
		if n > 0 && put < 1000 {
			t.Errorf("only %d put", put)
		}
	}
}

// grown is a row that a car can go by, made by putting requests, drawn, one after the other, with the rows ahead of it.
func grown(x api.Instance, car int, draws *rand.Rand) ([]int, [][]int) {
	seq := Empty(x)
	var ahead [][]int
	for _, i := range draws.Perm(len(x.Rides)) {
		a := 1 + draws.IntN(len(seq)-1)
		b := a + 1 + draws.IntN(len(seq)-a)
		if row := With(x, seq, i+1, a, b); Check(x, car, row) == api.OK {
			ahead = append(ahead, seq)
			seq = row
		}
	}
	return seq, ahead
}

// P9.2: a row without a request can be gone by, if the row can.
func TestARowWithoutARequestCanBeGoneBy(t *testing.T) {
	draws := rand.New(rand.NewPCG(1, 2))
	taken := 0
	for range 400 {
		n := draws.IntN(12)
		loads := make([]api.Load, n)
		for i := range loads {
			loads[i] = of(draws.IntN(4), draws.IntN(3))
		}
		x := asking(loads, of(draws.IntN(9), draws.IntN(5)))
		seq, ahead := grown(x, 0, draws)
		served := Served(x, seq)
		if len(served) != len(ahead) || len(seq) != 2+2*len(served) {
			t.Fatalf("%v serves %v", seq, served)
		}
		for _, request := range served {
			row := Without(x, seq, request)
			if e := Check(x, 0, row); e != api.OK || len(row) != len(seq)-2 {
				t.Fatalf("%v without %d: %v, %d", seq, request, row, e)
			}
			a, b := Pair(x, seq, request)
			if back := With(x, row, request, a, b); !slices.Equal(back, seq) {
				t.Fatalf("%v without %d, and with it: %v", seq, request, back)
			}
			taken++
		}
	}
	if taken < 500 {
		t.Errorf("only %d taken", taken)
	}
}

// P9.2: the same of all short rows.
func TestAllShortRowsWithoutARequest(t *testing.T) {
	x := three()
	rows(6, 1, 6, func(inner []int) {
		seq := slices.Concat([]int{0}, inner, []int{7})
		for car := range x.Cars {
			if Check(x, car, seq) != api.OK {
				continue
			}
			for request := range 5 {
				if e := Check(x, car, Without(x, seq, request)); e != api.OK {
					t.Fatalf("car %d, %v without %d: %d", car, seq, request, e)
				}
			}
		}
	})
}

// What is handed in stays as it is, the memory behind it too, and what is answered shares none of it.
func TestWhatIsHandedInStays(t *testing.T) {
	x := two()
	memory := []int{0, 1, 2, 3, 4, 5, 91, 92, 93, 94}
	kept := slices.Clone(memory)
	seq := memory[:6]
	Check(x, 0, seq)
	Where(seq, 3)
	Pair(x, seq, 1)
	for i, ints := range [][]int{
		Empty(x), Served(x, seq), Without(x, seq, 1), Without(x, seq, 0), Without(x, seq, 9), Without(x, memory[:0], 1),
		With(x, seq, 1, 1, 2), With(x, seq, 2, 3, 6), With(x, seq, 1, 0, 2), With(x, seq, 0, 1, 2), With(x, memory[:0], 1, 1, 2),
	} {
		for k := range ints[:cap(ints)] {
			ints[:cap(ints)][k] = -7
		}
		if !slices.Equal(memory, kept) {
			t.Fatalf("answer %d: %v", i, memory)
		}
	}
	loads := Loads(x, seq)
	for i := range loads {
		loads[i] = of(9, 9)
	}
	if x.Stops[1].Load != of(1, 0) || x.Stops[4].Load != of(-1, -1) || Check(x, 0, seq) != api.OK {
		t.Error("the instance is changed")
	}
}
