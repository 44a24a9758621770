package proof

import (
	"math"
	"math/big"
	"math/rand/v2"
	"slices"
	"testing"

	"jitney/api"
	"jitney/diff"
)

const (
	bigW = int64(1) << 41 // MaxTime times 2
	bigN = 4098           // MaxStops and 2
)

func edge(from, to int, w int64) api.Edge {
	return api.Edge{From: from, To: to, W: w}
}

// added is the exact sum of a way from one number to another one, and whether it is one, said directly.
func added(es []api.Edge, way []int, from, to int) (int64, bool) {
	sum, at, limit := new(big.Int), from, big.NewInt(bigW)
	for _, place := range way {
		if place < 0 || place >= len(es) || es[place].From != at {
			return 0, false
		}
		w := big.NewInt(es[place].W)
		if w.CmpAbs(limit) > 0 {
			return 0, false
		}
		sum.Add(sum, w)
		at = es[place].To
	}
	if at != to || len(way) > 4098 {
		return 0, false
	}
	return sum.Int64(), true
}

// closed is the same of a way from a number to itself.
func closed(es []api.Edge, way []int) (int64, bool) {
	if len(way) == 0 || way[0] < 0 || way[0] >= len(es) {
		return 0, false
	}
	return added(es, way, es[way[0]].From, es[way[0]].From)
}

// tellSums holds Chain and Cycle of a way against what they must tell.
func tellSums(t *testing.T, es []api.Edge, way []int, from, to int) (bool, bool) {
	t.Helper()
	keptEdges, keptWay := slices.Clone(es), slices.Clone(way)
	want, ok := added(es, way, from, to)
	if sum, told := Chain(es, way, from, to); sum != want || told != ok {
		t.Fatalf("Chain(%v, %v, %d, %d): %d, %v, want %d, %v", es, way, from, to, sum, told, want, ok)
	}
	want, round := closed(es, way)
	if sum, told := Cycle(es, way); sum != want || told != round {
		t.Fatalf("Cycle(%v, %v): %d, %v, want %d, %v", es, way, sum, told, want, round)
	}
	if !slices.Equal(es, keptEdges) || !slices.Equal(way, keptWay) {
		t.Fatalf("what is handed in is changed")
	}
	return ok, round
}

// P8.1: Chain and Cycle of all ways of up to three places, of edges of three numbers.
func TestSumsSmall(t *testing.T) {
	es := []api.Edge{edge(0, 1, 5), edge(1, 2, -7), edge(2, 0, 1), edge(1, 1, 3), edge(1, 0, -5), edge(0, 1, 20)}
	chains, cycles := 0, 0
	tell := func(way []int) {
		for from := -1; from <= 3; from++ {
			for to := -1; to <= 3; to++ {
				chain, cycle := tellSums(t, es, way, from, to)
				if chain {
					chains++
				}
				if cycle {
					cycles++
				}
			}
		}
	}
	tell(nil)
	tell([]int{})
	for a := -1; a <= len(es); a++ {
		tell([]int{a})
		for b := -1; b <= len(es); b++ {
			tell([]int{a, b})
			for c := -1; c <= len(es); c++ {
				tell([]int{a, b, c})
			}
		}
	}
	if chains < 50 || cycles < 25*15 {
		t.Fatalf("only %d chains and %d cycles", chains, cycles)
	}
}

// P8.1: Chain and Cycle at the bounds: of Ws, of places, and of numbers, which may be any.
func TestSumsBounds(t *testing.T) {
	for _, w := range []int64{bigW, -bigW, bigW + 1, -bigW - 1, math.MaxInt64, math.MinInt64} {
		es := []api.Edge{edge(0, 1, w), edge(1, 0, 2), edge(1, 0, w)}
		within := w == bigW || w == -bigW
		for _, way := range [][]int{{0, 1}, {1, 0}, {0, 2}, {0}} {
			from := es[way[0]].From
			chain, _ := tellSums(t, es, way, from, es[way[len(way)-1]].To)
			if chain != within {
				t.Errorf("W %d, way %v: %v", w, way, chain)
			}
		}
		if sum, ok := Chain(es, []int{1}, 1, 0); sum != 2 || !ok {
			t.Errorf("W %d of edges that aren't of the way: %d, %v", w, sum, ok)
		}
	}
	loops := []api.Edge{edge(3, 3, bigW), edge(3, 3, -bigW)}
	for _, count := range []int{1, 2, 4097, 4098, 4099, 4100, 100000} {
		for place := range 2 {
			chain, cycle := tellSums(t, loops, slices.Repeat([]int{place}, count), 3, 3)
			if want := count <= bigN; chain != want || cycle != want {
				t.Errorf("%d places: %v, %v", count, chain, cycle)
			}
		}
	}
	if sum, ok := Chain(loops, slices.Repeat([]int{1}, bigN), 3, 3); sum != -4098<<41 || !ok {
		t.Errorf("%d, %v", sum, ok)
	}
	odd := []api.Edge{edge(math.MinInt, math.MaxInt, 4), edge(math.MaxInt, -1, -9)}
	if sum, ok := Chain(odd, []int{0, 1}, math.MinInt, -1); sum != -5 || !ok {
		t.Errorf("of any numbers: %d, %v", sum, ok)
	}
	for _, place := range []int{-1, 2, math.MinInt, math.MaxInt} {
		tellSums(t, odd, []int{place}, math.MinInt, math.MaxInt)
		tellSums(t, odd, []int{0, place}, math.MinInt, -1)
		tellSums(t, nil, []int{place}, 0, 0)
	}
	many := make([]api.Edge, 70000)
	if sum, ok := Chain(many, []int{69999, 0}, 0, 0); sum != 0 || !ok {
		t.Errorf("of many edges: %v", ok)
	}
}

// none is how far what can't be reached is.
const none = int64(1) << 60

// far is the least sums of ways of up to so many edges, which small Ws keep within an int64.
func far(n int, es []api.Edge, from, edges int) []int64 {
	dist := slices.Repeat([]int64{none}, n)
	dist[from] = 0
	for range edges {
		next := slices.Clone(dist)
		for _, x := range es {
			if dist[x.From] != none {
				next[x.To] = min(next[x.To], dist[x.From]+x.W)
			}
		}
		dist = next
	}
	return dist
}

// broken is what is wrong with an answer of Least, "" if nothing is.
func broken(n int, es []api.Edge, low, high int, a Answer, e api.Errno) string {
	dist := far(n, es, high, n-1)
	empty := len(a.X) == 0 && len(a.Chain) == 0 && len(a.Cycle) == 0
	switch {
	case !slices.Equal(dist, far(n, es, high, n)):
		sum, ok := closed(es, a.Cycle)
		if e != api.OK || !ok || sum >= 0 || len(a.X)+len(a.Chain) > 0 {
			return "no cycle below 0"
		}
	case slices.Contains(dist, none):
		if e != api.ErrNone || !empty {
			return "ErrNone is asked for"
		}
	default:
		if e != api.OK || len(a.X) != n || len(a.Cycle) > 0 {
			return "no numbers"
		}
		for i := range n {
			if a.X[i] != dist[i]-dist[n-1] {
				return "other numbers"
			}
		}
		if sum, ok := added(es, a.Chain, high, low); !ok || sum != dist[low] || sum != a.X[low]-a.X[high] {
			return "another way"
		}
	}
	return ""
}

// right is whether an answer is one, by the chapter's words, said directly of exact differences.
func right(n int, es []api.Edge, low, high int, a Answer) bool {
	if len(a.Cycle) > 0 {
		sum, ok := closed(es, a.Cycle)
		return ok && sum < 0 && len(a.X) == 0 && len(a.Chain) == 0
	}
	if len(a.X) != n || a.X[n-1] != 0 {
		return false
	}
	between := func(to, from int) *big.Int {
		return new(big.Int).Sub(big.NewInt(a.X[to]), big.NewInt(a.X[from]))
	}
	for _, x := range es {
		if between(x.To, x.From).Cmp(big.NewInt(x.W)) > 0 {
			return false
		}
	}
	for _, v := range a.X {
		if v < -none || v > none {
			return false
		}
	}
	sum, ok := added(es, a.Chain, high, low)
	return ok && between(low, high).Cmp(big.NewInt(sum)) == 0
}

// draw is a system of so many numbers and edges: of small Ws, about heights that all edges but few keep.
func draw(r *rand.Rand, n, edges int) []api.Edge {
	heights := make([]int64, n)
	for i := range heights {
		heights[i] = r.Int64N(20)
	}
	es := make([]api.Edge, edges)
	least := -r.Int64N(3)
	for i := range es {
		from, to := r.IntN(n), r.IntN(n)
		es[i] = edge(from, to, heights[to]-heights[from]+r.Int64N(4)+least)
	}
	return es
}

func copied(a Answer) Answer {
	return Answer{slices.Clone(a.X), slices.Clone(a.Chain), slices.Clone(a.Cycle)}
}

func same(a, b Answer) bool {
	return slices.Equal(a.X, b.X) && slices.Equal(a.Chain, b.Chain) && slices.Equal(a.Cycle, b.Cycle)
}

// turned is answers that are nearly the given one: each number, place and list of it moved, left out, or written twice.
func turned(a Answer) []Answer {
	var list []Answer
	for i := range a.X {
		for _, by := range []int64{-1, 1, none, -none, 2 * none} {
			b := copied(a)
			b.X[i] += by
			list = append(list, b)
		}
	}
	for _, pick := range []func(*Answer) *[]int{func(b *Answer) *[]int { return &b.Chain }, func(b *Answer) *[]int { return &b.Cycle }} {
		for i := range *pick(&a) {
			for _, by := range []int{-1, 1} {
				b := copied(a)
				(*pick(&b))[i] += by
				list = append(list, b)
			}
			b := copied(a)
			*pick(&b) = slices.Delete(*pick(&b), i, i+1)
			list = append(list, b)
		}
		b, c := copied(a), copied(a)
		*pick(&b) = append(*pick(&b), 0)
		*pick(&c) = append(*pick(&c), *pick(&c)...)
		list = append(list, b, c)
	}
	moved := copied(a)
	for i := range moved.X {
		moved.X[i]++
	}
	return append(list, moved, Answer{Chain: a.Chain}, Answer{X: a.X}, Answer{Cycle: a.Chain}, Answer{Chain: a.Cycle},
		Answer{X: append(slices.Clone(a.X), 0), Chain: a.Chain}, Answer{X: a.X[:max(0, len(a.X)-1)], Chain: a.Chain},
		Answer{X: make([]int64, len(a.X)), Chain: a.Chain, Cycle: a.Cycle})
}

// P8.1, P8.2: what Least tells of drawn systems, that it passes Check, and that what is nearly it passes just if it is right.
func TestLeastDrawn(t *testing.T) {
	r := rand.New(rand.NewPCG(8, 1))
	count := map[string]int{}
	for range 10000 {
		n := 1 + r.IntN(6)
		es := draw(r, n, r.IntN(20))
		low, high := r.IntN(n), r.IntN(n)
		kept := slices.Clone(es)
		a, e := Least(n, es, low, high)
		if fault := broken(n, es, low, high, a, e); fault != "" {
			t.Fatalf("Least(%d, %v, %d, %d): %+v, %d: %s", n, es, low, high, a, e, fault)
		}
		if Check(n, es, low, high, a) != (e == api.OK) {
			t.Fatalf("Check(%d, %v, %d, %d, %+v): %v", n, es, low, high, a, e != api.OK)
		}
		for _, b := range turned(a) {
			before, want := copied(b), right(n, es, low, high, b)
			if Check(n, es, low, high, b) != want {
				t.Fatalf("Check(%d, %v, %d, %d, %+v): %v", n, es, low, high, b, !want)
			}
			if !same(before, b) {
				t.Fatalf("the answer handed in is changed")
			}
			if want {
				count["nearly"]++
			}
		}
		if !slices.Equal(es, kept) {
			t.Fatalf("the edges are changed")
		}
		count[[]string{"numbers", "cycle"}[min(len(a.Cycle), 1)]]++
		if e == api.ErrNone {
			count["none"]++
		}
	}
	for _, kind := range []string{"numbers", "cycle", "none", "nearly"} {
		if count[kind] < 500 {
			t.Errorf("%d of %s: too few to tell", count[kind], kind)
		}
	}
}

// P8.2: all small numbers are asked: with a cycle that passes none hold, with a way none with less between.
func TestCheckProves(t *testing.T) {
	r := rand.New(rand.NewPCG(8, 2))
	ways, cycles := 0, 0
	for range 10000 {
		es := make([]api.Edge, 1+r.IntN(5))
		for i := range es {
			es[i] = edge(r.IntN(3), r.IntN(3), r.Int64N(5)-2)
		}
		way := make([]int, r.IntN(4))
		for i := range way {
			way[i] = r.IntN(len(es))
		}
		x := []int64{r.Int64N(7) - 3, r.Int64N(7) - 3, 0}
		if sum, ok := added(es, way, 1, 0); ok {
			x[1] = x[0] - sum
		}
		if Check(3, es, 0, 1, Answer{Cycle: way}) {
			cycles++
			eachHeld(es, func(held []int64) { t.Fatalf("%v hold of %v, in spite of %v", held, es, way) })
		}
		if Check(3, es, 0, 1, Answer{X: x, Chain: way}) {
			ways++
			eachHeld(es, func(held []int64) {
				if held[1]-held[0] < x[1]-x[0] {
					t.Fatalf("%v hold of %v, with less between than %v", held, es, x)
				}
			})
		}
	}
	if ways < 100 || cycles < 100 {
		t.Fatalf("%d ways, %d cycles: too few to tell", ways, cycles)
	}
}

// eachHeld goes through all small numbers, the last one 0, of which the edges hold.
func eachHeld(es []api.Edge, do func([]int64)) {
	for a := int64(-12); a <= 12; a++ {
		for b := int64(-12); b <= 12; b++ {
			x := []int64{a, b, 0}
			if !slices.ContainsFunc(es, func(e api.Edge) bool { return x[e.To]-x[e.From] > e.W }) {
				do(x)
			}
		}
	}
}

// P8.1: ErrArg of what isn't right or isn't there, ahead of all else; Check is false there.
func TestLeastWrong(t *testing.T) {
	good := []api.Edge{edge(0, 1, 0), edge(1, 2, 0), edge(2, 0, 0)}
	ring := []api.Edge{edge(0, 1, -1), edge(1, 0, 0)}
	sound := Answer{X: make([]int64, 3)}
	if !Check(3, good, 1, 1, sound) || !Check(3, ring, 1, 1, Answer{Cycle: []int{0, 1}}) {
		t.Fatal("what is right doesn't pass")
	}
	for _, at := range []int{-1, 3, 4, math.MinInt, math.MaxInt} {
		for _, es := range [][]api.Edge{nil, good, ring} {
			for _, pair := range [][2]int{{at, 1}, {1, at}, {at, at}} {
				if a, e := Least(3, es, pair[0], pair[1]); e != api.ErrArg || !same(a, Answer{}) {
					t.Errorf("%v: %d", pair, e)
				}
				if Check(3, es, pair[0], pair[1], sound) || Check(3, es, pair[0], pair[1], Answer{Cycle: []int{0, 1}}) {
					t.Errorf("Check: %v", pair)
				}
			}
		}
	}
	for _, bad := range []api.Edge{edge(-1, 0, 0), edge(0, 3, 0), edge(3, 0, 0), edge(0, -1, 0), edge(0, 0, bigW+1), edge(0, 0, -bigW-1)} {
		es := append(slices.Clone(ring), bad)
		if a, e := Least(3, es, 0, 1); e != api.ErrArg || !same(a, Answer{}) {
			t.Errorf("%v: %d", bad, e)
		}
		if Check(3, es, 0, 1, Answer{Cycle: []int{0, 1}}) || Check(3, append(slices.Clone(good), bad), 1, 1, sound) {
			t.Errorf("Check: %v", bad)
		}
	}
	for _, n := range []int{0, -1, bigN + 1, math.MinInt, math.MaxInt} {
		if a, e := Least(n, nil, 0, 0); e != api.ErrArg || !same(a, Answer{}) {
			t.Errorf("n %d: %d", n, e)
		}
		if Check(n, nil, 0, 0, Answer{}) || Check(n, nil, 0, 0, Answer{X: make([]int64, 5000)}) {
			t.Errorf("Check of n %d", n)
		}
	}
	if Check(1, make([]api.Edge, diff.Most+1), 0, 0, Answer{X: []int64{0}}) || !Check(1, make([]api.Edge, diff.Most), 0, 0, Answer{X: []int64{0}}) {
		t.Error("too many edges")
	}
}

// P8.1: a cycle comes ahead of ErrNone; one that can't be reached from high is none.
func TestLeastOrder(t *testing.T) {
	es := []api.Edge{edge(0, 1, -1), edge(1, 0, 0)}
	a, e := Least(3, es, 0, 1)
	if e != api.OK || len(a.X)+len(a.Chain) != 0 || !Check(3, es, 0, 1, a) {
		t.Errorf("a cycle, and a number that can't be reached: %+v, %d", a, e)
	}
	if a, e := Least(3, es, 0, 2); e != api.ErrNone || !same(a, Answer{}) {
		t.Errorf("a cycle that can't be reached: %+v, %d", a, e)
	}
	if !Check(3, es, 0, 2, Answer{Cycle: []int{0, 1}}) || !Check(3, es, 2, 2, Answer{Cycle: []int{1, 0, 1, 0}}) {
		t.Error("with any cycle below 0 no numbers hold")
	}
	es = []api.Edge{edge(1, 0, 3), edge(1, 1, 0)}
	if a, e := Least(3, es, 0, 1); e != api.ErrNone || !same(a, Answer{}) {
		t.Errorf("the last one can't be reached: %+v, %d", a, e)
	}
	if a, e := Least(2, es, 1, 0); e != api.ErrNone || !same(a, Answer{}) {
		t.Errorf("low can't be reached: %+v, %d", a, e)
	}
}

// P8.1: low and high the same number, a single number, and the greatest numbers.
func TestLeastEdges(t *testing.T) {
	a, e := Least(1, nil, 0, 0)
	if e != api.OK || !same(a, Answer{X: []int64{0}}) || !Check(1, nil, 0, 0, a) || !Check(1, []api.Edge{}, 0, 0, Answer{X: []int64{0}, Chain: []int{}}) {
		t.Errorf("a single number: %+v, %d", a, e)
	}
	a, e = Least(1, []api.Edge{edge(0, 0, -1)}, 0, 0)
	if e != api.OK || !same(a, Answer{Cycle: []int{0}}) {
		t.Errorf("a single number that can't be: %+v, %d", a, e)
	}
	for _, w := range []int64{bigW, -bigW, 1, 0} {
		es := make([]api.Edge, bigN-1)
		for i := range es {
			es[i] = edge(i, i+1, w)
		}
		a, e := Least(bigN, es, bigN-1, 0)
		if e != api.OK || len(a.Chain) != bigN-1 || a.X[0] != -w*(bigN-1) || a.X[bigN-1] != 0 || !Check(bigN, es, bigN-1, 0, a) {
			t.Errorf("W %d: %d, %d places", w, e, len(a.Chain))
		}
		es = append(es, edge(bigN-1, 0, -bigW))
		a, e = Least(bigN, es, bigN-1, 0)
		if !Check(bigN, es, bigN-1, 0, a) || (len(a.Cycle) == bigN) != (w*(bigN-1) < bigW) {
			t.Errorf("W %d, and back: %d, %d places", w, e, len(a.Cycle))
		}
	}
}

// P8.1: what must be of an answer that passes, each alone.
func TestCheckParts(t *testing.T) {
	es := []api.Edge{edge(1, 0, -3), edge(2, 0, 9), edge(2, 1, 8), edge(0, 2, 1), edge(1, 2, 0), edge(0, 1, 3), edge(1, 0, 7)}
	for i, c := range []struct {
		a  Answer
		ok bool
	}{
		{Answer{X: []int64{-1, 2, 0}, Chain: []int{0}}, true},
		{Answer{X: []int64{5, 8, 0}, Chain: []int{0}}, true},
		{Answer{X: []int64{5, 8, 0}, Chain: []int{0}, Cycle: []int{}}, true},
		{Answer{X: []int64{-1, 2, 0}, Chain: []int{0, 5, 0}}, true},
		{Answer{X: []int64{-2, 1, 0}, Chain: []int{0}}, false},
		{Answer{X: []int64{4, 7, 0}, Chain: []int{6}}, false},
		{Answer{X: []int64{-1, 2, 0}}, false},
		{Answer{X: []int64{-1, 2, 0}, Chain: []int{5}}, false},
		{Answer{X: []int64{0, 3, 1}, Chain: []int{0}}, false},
		{Answer{X: []int64{-1, 2}, Chain: []int{0}}, false},
		{Answer{X: []int64{-1, 2, 0, 0}, Chain: []int{0}}, false},
		{Answer{X: []int64{-1, 2, 0}, Chain: []int{0}, Cycle: []int{0}}, false},
		{Answer{X: []int64{-1, 2, 0}, Chain: []int{0}, Cycle: []int{0, 5}}, false},
		{Answer{X: []int64{-1, 2, 0}, Chain: []int{7}}, false},
		{Answer{X: []int64{-1, 2, 0}, Chain: []int{-1}}, false},
		{Answer{Chain: []int{0}}, false},
		{Answer{Cycle: []int{0, 5}}, false},
		{Answer{}, false},
	} {
		if Check(3, es, 0, 1, c.a) != c.ok || right(3, es, 0, 1, c.a) != c.ok {
			t.Errorf("case %d: %v", i, !c.ok)
		}
	}
	ring := []api.Edge{edge(0, 1, 4), edge(1, 0, -5), edge(1, 1, -1)}
	for i, c := range []struct {
		a  Answer
		ok bool
	}{
		{Answer{Cycle: []int{0, 1}}, true},
		{Answer{Cycle: []int{1, 0}}, true},
		{Answer{Cycle: []int{2}}, true},
		{Answer{Cycle: []int{2, 1, 0, 2, 2}}, true},
		{Answer{X: []int64{}, Chain: []int{}, Cycle: []int{0, 1}}, true},
		{Answer{X: []int64{0, 0, 0}, Cycle: []int{0, 1}}, false},
		{Answer{Chain: []int{0}, Cycle: []int{0, 1}}, false},
		{Answer{Cycle: []int{0}}, false},
		{Answer{Cycle: []int{0, 0}}, false},
		{Answer{Cycle: []int{3}}, false},
		{Answer{Cycle: []int{-1}}, false},
		{Answer{Cycle: slices.Repeat([]int{2}, bigN)}, true},
		{Answer{Cycle: slices.Repeat([]int{2}, bigN+1)}, false},
	} {
		if Check(3, ring, 0, 1, c.a) != c.ok || right(3, ring, 0, 1, c.a) != c.ok {
			t.Errorf("cycle %d: %v", i, !c.ok)
		}
	}
	ring[1].W = -4
	if Check(3, ring, 0, 1, Answer{Cycle: []int{0, 1}}) {
		t.Error("a sum of 0 isn't below 0")
	}
}

// TestExample is the chapter's.
func TestExample(t *testing.T) {
	es := []api.Edge{edge(1, 0, -3), edge(0, 2, 0), edge(1, 2, 0)}
	a, e := Least(3, es, 0, 1)
	if e != api.OK || !same(a, Answer{X: []int64{0, 3, 0}, Chain: []int{0}}) {
		t.Errorf("%+v, %d", a, e)
	}
}

// P2, and what is answered is new memory.
func TestAgain(t *testing.T) {
	r := rand.New(rand.NewPCG(8, 3))
	for range 2000 {
		n := 2 + r.IntN(5)
		es := draw(r, n, r.IntN(20))
		kept := slices.Clone(es)
		a, e := Least(n, es, 0, n-1)
		first := copied(a)
		for i := range a.X[:cap(a.X)] {
			a.X[:cap(a.X)][i] = -9
		}
		for _, list := range [][]int{a.Chain[:cap(a.Chain)], a.Cycle[:cap(a.Cycle)]} {
			for i := range list {
				list[i] = -9
			}
		}
		b, f := Least(n, es, 0, n-1)
		if !same(b, first) || e != f || !slices.Equal(es, kept) {
			t.Fatalf("%v: another answer", es)
		}
	}
}
