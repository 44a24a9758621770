package diff

import (
	"math"
	"math/big"
	"math/rand/v2"
	"slices"
	"testing"

	"jitney/api"
)

const (
	bigW   = int64(1) << 41 // MaxTime times 2
	bigN   = 4098           // MaxStops and 2
	nobody = math.MinInt
)

func edge(from, to int, w int64) api.Edge {
	return api.Edge{From: from, To: to, W: w}
}

// far is the least sums of ways from a number, of up to so many edges each, reckoned exactly; nil where there is no way.
func far(n int, es []api.Edge, from, edges int) []*big.Int {
	sums := make([]*big.Int, n)
	sums[from] = new(big.Int)
	for range edges {
		next := slices.Clone(sums)
		for _, x := range es {
			if sums[x.From] == nil {
				continue
			}
			sum := new(big.Int).Add(sums[x.From], big.NewInt(x.W))
			if next[x.To] == nil || sum.Cmp(next[x.To]) < 0 {
				next[x.To] = sum
			}
		}
		sums = next
	}
	return sums
}

// expected is what Solve's distances must be, and whether there are any: with no cycle below 0, a way of n edges is no shorter than those of fewer.
func expected(n int, es []api.Edge, from int) ([]int64, bool) {
	sums, more := far(n, es, from, n-1), far(n, es, from, n)
	dist := make([]int64, n)
	for i := range n {
		if sums[i] == nil {
			dist[i] = 1 << 60
			continue
		}
		if sums[i].Cmp(more[i]) != 0 {
			return nil, false
		}
		dist[i] = sums[i].Int64()
	}
	return dist, true
}

// reached tells which numbers a way leads to.
func reached(n int, es []api.Edge, from int) []bool {
	there := make([]bool, n)
	there[from] = true
	for more := true; more; {
		more = false
		for _, x := range es {
			if there[x.From] && !there[x.To] {
				there[x.To], more = true, true
			}
		}
	}
	return there
}

// wayFault is what is wrong with a way from one number to another one of that sum, "" if nothing is.
func wayFault(es []api.Edge, way []int, from, to int, want *big.Int) string {
	sum := new(big.Int)
	at := from
	for _, place := range way {
		if place < 0 || place >= len(es) {
			return "no such place"
		}
		if es[place].From != at {
			return "an edge that doesn't begin where the one ahead ends"
		}
		at = es[place].To
		sum.Add(sum, big.NewInt(es[place].W))
	}
	if at != to {
		return "it ends elsewhere"
	}
	if want != nil && sum.Cmp(want) != 0 {
		return "another sum: " + sum.String()
	}
	return ""
}

// cycleFault is what is wrong with a cycle that is told of a system, "" if nothing is.
func cycleFault(n int, es []api.Edge, from int, cycle []int) string {
	if len(cycle) == 0 {
		return "no edges"
	}
	if cycle[0] < 0 || cycle[0] >= len(es) {
		return "no such place"
	}
	start := es[cycle[0]].From
	if fault := wayFault(es, cycle, start, start, nil); fault != "" {
		return fault
	}
	sum, come := new(big.Int), map[int]int{}
	for _, place := range cycle {
		come[es[place].To]++
		sum.Add(sum, big.NewInt(es[place].W))
	}
	if len(come) != len(cycle) {
		return "a number twice"
	}
	if sum.Sign() >= 0 {
		return "a sum that isn't below 0"
	}
	if !reached(n, es, from)[start] {
		return "it can't be reached"
	}
	return ""
}

// tell holds all that Solve and Way tell of a right system against what is expected, and answers whether there is a cycle.
func tell(t *testing.T, n int, es []api.Edge, from int) bool {
	t.Helper()
	kept := slices.Clone(es)
	dist, cycle, e := Solve(n, es, from)
	want, ok := expected(n, es, from)
	if e != api.OK {
		t.Fatalf("Solve(%d, %v, %d): error %d", n, es, from, e)
	}
	if ok && (!slices.Equal(dist, want) || len(cycle) != 0) {
		t.Fatalf("Solve(%d, %v, %d): %v, cycle %v, want %v", n, es, from, dist, cycle, want)
	}
	if !ok && len(dist) != 0 {
		t.Fatalf("Solve(%d, %v, %d): distances %v beside a cycle", n, es, from, dist)
	}
	if !ok && cycleFault(n, es, from, cycle) != "" {
		t.Fatalf("Solve(%d, %v, %d): cycle %v: %s", n, es, from, cycle, cycleFault(n, es, from, cycle))
	}
	for to := range n {
		tellWay(t, n, es, from, to, want, ok)
	}
	if !slices.Equal(es, kept) {
		t.Fatalf("the edges are changed: %v, were %v", es, kept)
	}
	return !ok
}

func tellWay(t *testing.T, n int, es []api.Edge, from, to int, want []int64, ok bool) {
	t.Helper()
	way, e := Way(n, es, from, to)
	switch {
	case !ok:
		if e != api.ErrTime || len(way) != 0 {
			t.Fatalf("Way(%d, %v, %d, %d): %v, %d beside a cycle", n, es, from, to, way, e)
		}
	case want[to] == 1<<60:
		if e != api.ErrNone || len(way) != 0 {
			t.Fatalf("Way(%d, %v, %d, %d): %v, %d, but none leads there", n, es, from, to, way, e)
		}
	default:
		if fault := wayFault(es, way, from, to, big.NewInt(want[to])); e != api.OK || fault != "" {
			t.Fatalf("Way(%d, %v, %d, %d): %v, %d: %s", n, es, from, to, way, e, fault)
		}
	}
}

// P7.1, P7.2, P7.3: all systems of up to three numbers and up to three edges of small Ws.
func TestSolveSmall(t *testing.T) {
	for n := 1; n <= 3; n++ {
		var all []api.Edge
		for from := range n {
			for to := range n {
				for w := int64(-2); w <= 2; w++ {
					all = append(all, edge(from, to, w))
				}
			}
		}
		for from := range n {
			tell(t, n, nil, from)
			for _, a := range all {
				tell(t, n, []api.Edge{a}, from)
				for _, b := range all {
					tell(t, n, []api.Edge{a, b}, from)
				}
			}
		}
		if n < 3 {
			continue
		}
		for _, a := range all {
			for _, b := range all {
				for _, c := range all {
					tell(t, n, []api.Edge{a, b, c}, 0)
				}
			}
		}
	}
}

// draw is a system of so many numbers and edges, with Ws of one of several kinds.
func draw(r *rand.Rand, n, edges, kind int) []api.Edge {
	es := make([]api.Edge, edges)
	for i := range es {
		var w int64
		switch kind {
		case 0:
			w = r.Int64N(12) - 2
		case 1:
			w = r.Int64N(2*bigW+1) - bigW
		case 2:
			w = bigW * (r.Int64N(3) - 1)
		default:
			w = r.Int64N(3)
		}
		es[i] = edge(r.IntN(n), r.IntN(n), w)
	}
	return es
}

// P7.1, P7.2, P7.3: drawn systems, of Ws of all sizes. Those with hidden heights have Ws below 0, but no cycle below 0.
func TestSolveDrawn(t *testing.T) {
	r := rand.New(rand.NewPCG(7, 1))
	cycles, ways := 0, 0
	for i := range 20000 {
		n := 1 + r.IntN(9)
		es := draw(r, n, r.IntN(25), i%5)
		if i%5 > 2 {
			heights := make([]int64, n)
			for j := range heights {
				heights[j] = r.Int64N(100)
			}
			for j := range es {
				es[j].W += heights[es[j].To] - heights[es[j].From]
			}
		}
		if tell(t, n, es, r.IntN(n)) {
			cycles++
		} else {
			ways++
		}
	}
	if cycles < 3000 || ways < 3000 {
		t.Fatalf("%d with a cycle, %d without one: too few of one kind to tell", cycles, ways)
	}
}

// P7.2: of distances, all edges between numbers that can be reached hold, and of no numbers all edges of a cycle.
func TestSolveHolds(t *testing.T) {
	r := rand.New(rand.NewPCG(7, 2))
	for range 5000 {
		n := 1 + r.IntN(6)
		es := draw(r, n, r.IntN(12), r.IntN(3))
		dist, cycle, _ := Solve(n, es, 0)
		if (len(dist) == n) == (len(cycle) > 0) {
			t.Fatalf("not just one of both: %v, %v", dist, cycle)
		}
		if len(cycle) > 0 {
			continue
		}
		there := reached(n, es, 0)
		inner := slices.DeleteFunc(slices.Clone(es), func(x api.Edge) bool { return !there[x.From] || !there[x.To] })
		if !Holds(inner, dist) {
			t.Fatalf("%v don't hold of %v", inner, dist)
		}
	}
}

// path is n - 1 edges from 0 to n - 1, one after the other.
func path(n int, w int64) []api.Edge {
	es := make([]api.Edge, n-1)
	for i := range es {
		es[i] = edge(i, i+1, w)
	}
	return es
}

// laid is the same edges in other orders: as they are, from their end, and drawn.
func laid(es []api.Edge) [][]api.Edge {
	back, drawn := slices.Clone(es), slices.Clone(es)
	slices.Reverse(back)
	rand.New(rand.NewPCG(7, 3)).Shuffle(len(drawn), func(i, j int) { drawn[i], drawn[j] = drawn[j], drawn[i] })
	return [][]api.Edge{es, back, drawn}
}

// P7.1, P7.3: the longest ways, of the greatest and the least Ws, in whichever order the edges stand.
func TestSolveLongest(t *testing.T) {
	for _, w := range []int64{bigW, -bigW, 1, -1, 0} {
		for kind, es := range laid(path(bigN, w)) {
			dist, cycle, e := Solve(bigN, es, 0)
			if len(dist) != bigN || len(cycle) != 0 || e != api.OK {
				t.Fatalf("W %d, order %d: %d distances, cycle %v, %d", w, kind, len(dist), cycle, e)
			}
			for i, d := range dist {
				if d != int64(i)*w {
					t.Fatalf("W %d, order %d: %d is %d far", w, kind, i, d)
				}
			}
			way, e := Way(bigN, es, 0, bigN-1)
			if fault := wayFault(es, way, 0, bigN-1, big.NewInt((bigN-1)*w)); e != api.OK || fault != "" || len(way) != bigN-1 {
				t.Fatalf("W %d, order %d: way of %d, %d: %s", w, kind, len(way), e, fault)
			}
			if dist, _, _ := Solve(bigN, es, bigN-1); dist[bigN-1] != 0 || dist[0] != Far || dist[bigN-2] != Far {
				t.Fatalf("W %d, order %d: back from the end", w, kind)
			}
		}
	}
}

// P7.1, P7.2: a cycle of all numbers, whose sum is just below 0, just 0, or as low as can be.
func TestSolveLongestCycle(t *testing.T) {
	for _, way := range laid(path(bigN, 1)) {
		es := append(slices.Clone(way), edge(bigN-1, 0, -bigN))
		_, cycle, e := Solve(bigN, es, 17)
		if fault := cycleFault(bigN, es, 17, cycle); fault != "" || len(cycle) != bigN || e != api.OK {
			t.Fatalf("cycle of %d, %d: %s", len(cycle), e, fault)
		}
		es[len(es)-1].W++
		if dist, cycle, _ := Solve(bigN, es, 17); len(cycle) != 0 || dist[16] != -1 || dist[18] != 1 {
			t.Fatalf("a cycle of 0: %v", cycle)
		}
	}
	for _, way := range laid(path(bigN, -bigW)) {
		es := append(slices.Clone(way), edge(bigN-1, 0, -bigW))
		_, cycle, e := Solve(bigN, es, 4)
		if fault := cycleFault(bigN, es, 4, cycle); fault != "" || len(cycle) != bigN || e != api.OK {
			t.Fatalf("cycle of %d, %d: %s", len(cycle), e, fault)
		}
	}
}

// P7.2: many edges that lead round and round, each as low as can be: no sum goes round an int64.
func TestSolveWound(t *testing.T) {
	for _, ring := range []int{1, 2, 3, 5} {
		var es []api.Edge
		for i := range Most - 1 {
			es = append(es, edge(i%ring, (i+1)%ring, -bigW))
		}
		es = append(es, edge(ring-1, bigN-1, bigW))
		dist, cycle, e := Solve(bigN, es, 0)
		if fault := cycleFault(bigN, es, 0, cycle); fault != "" || len(dist) != 0 || len(cycle) != ring || e != api.OK {
			t.Fatalf("ring of %d: %v, %d: %s", ring, cycle, e, fault)
		}
		if dist, cycle, e := Solve(bigN, es, bigN-1); len(cycle) != 0 || e != api.OK || dist[0] != Far || dist[bigN-1] != 0 {
			t.Fatalf("ring of %d, that can't be reached: %v, %d", ring, cycle, e)
		}
	}
}

// P7.1: a cycle that can't be reached is none; a number that can't be reached is Far, or none leads there, beside one that can be.
func TestSolveReach(t *testing.T) {
	es := []api.Edge{edge(0, 1, 5), edge(2, 3, -1), edge(3, 2, 0), edge(3, 0, 9)}
	if dist, cycle, e := Solve(5, es, 0); !slices.Equal(dist, []int64{0, 5, Far, Far, Far}) || len(cycle) != 0 || e != api.OK {
		t.Errorf("%v %v %d", dist, cycle, e)
	}
	if way, e := Way(5, es, 0, 2); len(way) != 0 || e != api.ErrNone {
		t.Errorf("%v %d", way, e)
	}
	if way, e := Way(5, es, 0, 0); len(way) != 0 || e != api.OK {
		t.Errorf("%v %d", way, e)
	}
	for _, to := range []int{0, 1, 2, 3, 4} {
		if way, e := Way(5, es, 2, to); len(way) != 0 || e != api.ErrTime {
			t.Errorf("to %d: %v %d", to, way, e)
		}
	}
	if dist, cycle, e := Solve(5, es, 3); len(dist) != 0 || cycleFault(5, es, 3, cycle) != "" || e != api.OK {
		t.Errorf("%v %v %d", dist, cycle, e)
	}
}

// TestExample is the chapter's.
func TestExample(t *testing.T) {
	es := []api.Edge{edge(0, 1, 5), edge(1, 0, -6)}
	_, cycle, e := Solve(2, es, 0)
	slices.Sort(cycle)
	if !slices.Equal(cycle, []int{0, 1}) || e != api.OK {
		t.Errorf("%v %d", cycle, e)
	}
	es[1].W = -5
	if dist, cycle, e := Solve(2, es, 1); !slices.Equal(dist, []int64{-5, 0}) || len(cycle) != 0 || e != api.OK {
		t.Errorf("%v %v %d", dist, cycle, e)
	}
}

type system struct {
	n  int
	es []api.Edge
	ok bool
}

// systems are at the bounds of what is right, and just beyond them.
func systems() []system {
	list := []system{
		{1, nil, true}, {bigN, nil, true}, {0, nil, false}, {-1, nil, false}, {bigN + 1, nil, false},
		{math.MinInt, nil, false}, {math.MaxInt, nil, false}, {1, []api.Edge{}, true},
		{1, make([]api.Edge, Most), true}, {bigN, make([]api.Edge, Most), true}, {1, make([]api.Edge, Most+1), false},
		{0, make([]api.Edge, 1), false},
	}
	for _, w := range []int64{0, bigW, -bigW, bigW + 1, -bigW - 1, math.MaxInt64, math.MinInt64} {
		list = append(list, system{3, []api.Edge{edge(0, 2, w)}, w >= -bigW && w <= bigW})
	}
	for _, at := range []int{0, 1, 2, 3, -1, math.MinInt, math.MaxInt} {
		ok := at >= 0 && at < 3
		list = append(list, system{3, []api.Edge{edge(at, 0, 1)}, ok}, system{3, []api.Edge{edge(0, at, 1)}, ok})
	}
	for _, wrong := range []api.Edge{edge(4, 0, 0), edge(0, 4, 0), edge(0, 0, bigW+1), edge(-1, 0, 0)} {
		for place := range 3 {
			es := make([]api.Edge, 3)
			es[place] = wrong
			list = append(list, system{4, es, false})
		}
	}
	return append(list, system{bigN, []api.Edge{edge(bigN-1, 0, 0)}, true}, system{bigN, []api.Edge{edge(bigN, 0, 0)}, false})
}

// P7.1: what is right, and ErrArg of what isn't, or of a number that isn't there.
func TestRight(t *testing.T) {
	for i, s := range systems() {
		if Right(s.n, s.es) != s.ok {
			t.Errorf("system %d: %v", i, !s.ok)
		}
		want := api.ErrArg
		if s.ok {
			want = api.OK
		}
		if dist, cycle, e := Solve(s.n, s.es, 0); e != want || e != api.OK && len(dist)+len(cycle) != 0 {
			t.Errorf("system %d: Solve: %d", i, e)
		}
		if way, e := Way(s.n, s.es, 0, 0); (e == api.ErrArg) == s.ok || len(way) != 0 {
			t.Errorf("system %d: Way: %d", i, e)
		}
	}
	if Most != 65536 || Far != 1152921504606846976 {
		t.Error("the bounds")
	}
}

// P7.1: ErrArg comes ahead of ErrTime and of ErrNone, and ErrTime ahead of ErrNone.
func TestErrors(t *testing.T) {
	ring := []api.Edge{edge(0, 1, -1), edge(1, 0, 0)}
	for _, es := range [][]api.Edge{nil, ring} {
		for _, at := range []int{-1, 3, 4, nobody, math.MaxInt} {
			if dist, cycle, e := Solve(3, es, at); len(dist)+len(cycle) != 0 || e != api.ErrArg {
				t.Errorf("Solve from %d: %d", at, e)
			}
			if way, e := Way(3, es, at, 0); len(way) != 0 || e != api.ErrArg {
				t.Errorf("Way from %d: %d", at, e)
			}
			if way, e := Way(3, es, 0, at); len(way) != 0 || e != api.ErrArg {
				t.Errorf("Way to %d: %d", at, e)
			}
			if way, e := Way(3, es, at, at); len(way) != 0 || e != api.ErrArg {
				t.Errorf("Way from %d to it: %d", at, e)
			}
		}
	}
	if way, e := Way(3, ring, 0, 2); len(way) != 0 || e != api.ErrTime {
		t.Errorf("a cycle, and no way: %d", e)
	}
	if way, e := Way(3, ring, 2, 0); len(way) != 0 || e != api.ErrNone {
		t.Errorf("a cycle that can't be reached, and no way: %d", e)
	}
}

// P7.1: Holds, at its bounds and of what isn't there.
func TestHolds(t *testing.T) {
	for i, c := range []struct {
		es []api.Edge
		x  []int64
		ok bool
	}{
		{nil, nil, true},
		{[]api.Edge{}, []int64{}, true},
		{nil, []int64{5, -7}, true},
		{nil, []int64{Far, -Far}, true},
		{nil, []int64{0, Far + 1}, false},
		{nil, []int64{-Far - 1, 0}, false},
		{nil, []int64{math.MaxInt64}, false},
		{nil, []int64{math.MinInt64}, false},
		{[]api.Edge{edge(0, 0, 0)}, nil, false},
		{[]api.Edge{edge(0, 0, 0)}, []int64{4}, true},
		{[]api.Edge{edge(0, 0, -1)}, []int64{4}, false},
		{[]api.Edge{edge(0, 1, 3)}, []int64{4, 7}, true},
		{[]api.Edge{edge(0, 1, 3)}, []int64{4, 8}, false},
		{[]api.Edge{edge(0, 1, -3)}, []int64{4, 1}, true},
		{[]api.Edge{edge(0, 1, -3)}, []int64{4, 2}, false},
		{[]api.Edge{edge(1, 0, 3)}, []int64{7, 4}, true},
		{[]api.Edge{edge(1, 0, 3)}, []int64{8, 4}, false},
		{[]api.Edge{edge(0, 1, 2*Far)}, []int64{-Far, Far}, true},
		{[]api.Edge{edge(0, 1, 2*Far-1)}, []int64{-Far, Far}, false},
		{[]api.Edge{edge(0, 1, -2*Far)}, []int64{Far, -Far}, true},
		{[]api.Edge{edge(0, 1, -2*Far-1)}, []int64{Far, -Far}, false},
		{[]api.Edge{edge(0, 1, math.MaxInt64)}, []int64{-Far, Far}, true},
		{[]api.Edge{edge(0, 1, math.MinInt64)}, []int64{Far, -Far}, false},
		{[]api.Edge{edge(0, 2, 3)}, []int64{4, 7}, false},
		{[]api.Edge{edge(2, 0, 3)}, []int64{4, 7}, false},
		{[]api.Edge{edge(-1, 0, 3)}, []int64{4, 7}, false},
		{[]api.Edge{edge(0, -1, 3)}, []int64{4, 7}, false},
		{[]api.Edge{edge(math.MinInt, math.MaxInt, 3)}, []int64{4, 7}, false},
		{[]api.Edge{edge(0, 1, 3), edge(1, 0, -3)}, []int64{4, 7}, true},
		{[]api.Edge{edge(0, 1, 3), edge(1, 0, -4)}, []int64{4, 7}, false},
		{[]api.Edge{edge(0, 1, 2), edge(1, 0, -3)}, []int64{4, 7}, false},
		{make([]api.Edge, Most+1), make([]int64, bigN+1), true},
	} {
		es, x := slices.Clone(c.es), slices.Clone(c.x)
		if Holds(c.es, c.x) != c.ok {
			t.Errorf("case %d: %v", i, !c.ok)
		}
		if !slices.Equal(es, c.es) || !slices.Equal(x, c.x) {
			t.Errorf("case %d: what is handed in is changed", i)
		}
	}
}

// P7.1: Holds against exact differences, of drawn edges and numbers.
func TestHoldsDrawn(t *testing.T) {
	r := rand.New(rand.NewPCG(7, 4))
	held := 0
	for range 20000 {
		n := 1 + r.IntN(4)
		x := make([]int64, n)
		for i := range x {
			x[i] = r.Int64N(5)
		}
		es := draw(r, n, r.IntN(4), 0)
		ok := true
		for _, e := range es {
			ok = ok && x[e.To] <= x[e.From]+e.W
		}
		if Holds(es, x) != ok {
			t.Fatalf("%v of %v: %v", es, x, !ok)
		}
		if ok {
			held++
		}
	}
	if held < 2000 || held > 18000 {
		t.Fatalf("%d hold: too many of one kind to tell", held)
	}
}

// P7.3: whatever numbers hold, what To has, less what From has, is at most the sum of the way: all small numbers are asked.
func TestWayBounds(t *testing.T) {
	r := rand.New(rand.NewPCG(7, 5))
	asked := 0
	for range 400 {
		es := draw(r, 3, 1+r.IntN(6), 0)
		from, to := r.IntN(3), r.IntN(3)
		way, e := Way(3, es, from, to)
		if e != api.OK {
			continue
		}
		sum := int64(0)
		for _, place := range way {
			sum += es[place].W
		}
		most := int64(math.MinInt64)
		for i := range 30 * 30 * 30 {
			x := []int64{int64(i % 30), int64(i / 30 % 30), int64(i / 900)}
			if Holds(es, x) {
				most = max(most, x[to]-x[from])
			}
		}
		if most > sum {
			t.Fatalf("%v: from %d to %d: %d, the way's sum is %d", es, from, to, most, sum)
		}
		asked++
	}
	if asked < 100 {
		t.Fatalf("only %d asked", asked)
	}
}

// P2, and what is answered is new memory: written over, it changes nothing of the next answer, nor of what was handed in.
func TestAgain(t *testing.T) {
	r := rand.New(rand.NewPCG(7, 6))
	for range 2000 {
		n := 2 + r.IntN(6)
		es := draw(r, n, r.IntN(20), r.IntN(4))
		kept := slices.Clone(es)
		dist, cycle, _ := Solve(n, es, 0)
		way, e := Way(n, es, 0, n-1)
		dist2, cycle2, way2 := slices.Clone(dist), slices.Clone(cycle), slices.Clone(way)
		for _, list := range [][]int{cycle[:cap(cycle)], way[:cap(way)]} {
			for i := range list {
				list[i] = -9
			}
		}
		for i := range dist[:cap(dist)] {
			dist[:cap(dist)][i] = -9
		}
		dist3, cycle3, _ := Solve(n, es, 0)
		way3, e3 := Way(n, es, 0, n-1)
		if !slices.Equal(dist3, dist2) || !slices.Equal(cycle3, cycle2) || !slices.Equal(way3, way2) || e3 != e || !slices.Equal(es, kept) {
			t.Fatalf("%v: another answer", es)
		}
	}
}

// P1: a system with as many numbers and edges as may be, laid so that little is told by each look: it ends.
func TestSolveGreatest(t *testing.T) {
	r := rand.New(rand.NewPCG(7, 7))
	es := path(bigN, -1)
	for len(es) < Most {
		from := r.IntN(bigN)
		to := r.IntN(bigN)
		es = append(es, edge(from, to, int64(from)-int64(to)+r.Int64N(50)))
	}
	r.Shuffle(len(es), func(i, j int) { es[i], es[j] = es[j], es[i] })
	dist, cycle, e := Solve(bigN, es, 0)
	if len(cycle) != 0 || e != api.OK {
		t.Fatalf("cycle %v, %d", cycle, e)
	}
	for i, d := range dist {
		if d != -int64(i) {
			t.Fatalf("%d is %d far", i, d)
		}
	}
}
