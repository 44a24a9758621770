package bound

import (
	"math"
	"math/bits"
	"math/rand/v2"
	"slices"
	"testing"

	"jitney/api"
	"jitney/inst"
	"jitney/todo"
)

// riding is a right instance of so many requests, whose times are drawn up to a most.
func riding(r *rand.Rand, n int, most int64) api.Instance {
	x := api.Instance{Cars: make([]api.Car, 1), Rides: make([]int64, n), Stops: make([]api.Stop, 2*n+2)}
	for range x.Stops {
		times := make([]int64, len(x.Stops))
		for j := range times {
			times[j] = r.Int64N(most + 1)
		}
		x.Matrix = append(x.Matrix, times)
	}
	return x
}

// line is n requests on a line, from 1 to n + 1, from 2 to n + 2, and so on.
func line(n int) api.Instance {
	x := api.Instance{Cars: make([]api.Car, 1), Rides: make([]int64, n), Stops: make([]api.Stop, 2*n+2)}
	for i := range x.Stops[:2*n+1] {
		x.Stops[i].Spot = complex(float64(i), 0)
	}
	return x
}

func made(t *testing.T, x api.Instance, prefix, waiting []int) todo.Todo {
	t.Helper()
	d, e := todo.New(x, prefix, waiting)
	if e != api.OK {
		t.Fatalf("%v, %v: %d", prefix, waiting, e)
	}
	return d
}

// from is the stop that a place stands for, -1 for the prefix's last one.
func from(d todo.Todo, last int) int {
	if last == -1 {
		return d.Prefix[len(d.Prefix)-1]
	}
	return d.Stops[last]
}

// least is what the rest costs at least, and the least place to begin with, said by all ways that there are.
func least(x api.Instance, d todo.Todo, mask uint32, last int) (int64, int) {
	here := from(d, last)
	cost, next := int64(math.MaxInt64), -1
	for place, stop := range d.Stops {
		first := d.After[place]
		if mask>>place&1 == 1 || first >= 0 && mask>>first&1 == 0 {
			continue
		}
		rest, _ := least(x, d, mask|1<<place, place)
		if sum := inst.Travel(x, here, stop) + rest; sum < cost {
			cost, next = sum, place
		}
	}
	if mask == 1<<len(d.Stops)-1 {
		return inst.Travel(x, here, d.End), -1
	}
	return cost, next
}

// some is what is to be driven by one who drew it: so many wait, and so many are on board.
func some(t *testing.T, r *rand.Rand, waiting, aboard int, most int64) (api.Instance, todo.Todo) {
	n := waiting + aboard + r.IntN(3)
	x := riding(r, n, most)
	requests := r.Perm(n)
	for i := range requests {
		requests[i]++
	}
	prefix := []int{0}
	for _, request := range requests[waiting+aboard:] {
		prefix = append(prefix, request, n+request)
	}
	prefix = append(prefix, requests[waiting:waiting+aboard]...)
	return x, made(t, x, prefix, requests[:waiting])
}

func tell(t *testing.T, b *Table, mask uint32, last int, cost int64, next int) {
	t.Helper()
	if c, n := b.At(mask, last), b.Next(mask, last); c != cost || n != next {
		t.Errorf("%b, %d: %d, %d, not %d, %d", mask, last, c, n, cost, next)
	}
}

// P14.1: tables reckoned by hand.
func TestTable(t *testing.T) {
	x := line(1) // 0, 1, 2, and 0 again
	b := New(x, made(t, x, []int{0}, []int{1}))
	tell(t, b, 0, -1, 4, 0)
	tell(t, b, 0, 0, 3, 0)
	tell(t, b, 0, 1, 1+1+2, 0)
	tell(t, b, 1, -1, 4, 1)
	tell(t, b, 1, 0, 3, 1)
	tell(t, b, 1, 1, 2, 1)
	tell(t, b, 2, -1, 2, 0)
	tell(t, b, 2, 1, 2, 0)
	tell(t, b, 3, -1, 0, -1)
	tell(t, b, 3, 0, 1, -1)
	tell(t, b, 3, 1, 2, -1)
	if b.Least() != 4 {
		t.Errorf("Least: %d", b.Least())
	}
	b = New(x, made(t, x, []int{0, 1}, nil))
	tell(t, b, 0, -1, 3, 0)
	tell(t, b, 0, 0, 2, 0)
	tell(t, b, 1, -1, 1, -1)
	tell(t, b, 1, 0, 2, -1)
	if b.Least() != 3 {
		t.Errorf("Least of one on board: %d", b.Least())
	}
}

// P14.1: without a rest it is the time to the end's depot, from the prefix's last stop if nothing was to be driven at all.
func TestNoRest(t *testing.T) {
	x := line(2)
	for _, c := range []struct {
		prefix []int
		cost   int64
	}{{[]int{0}, 0}, {[]int{0, 1, 3}, 3}, {[]int{0, 2, 1, 3, 4}, 4}} {
		b := New(x, made(t, x, c.prefix, nil))
		tell(t, b, 0, -1, c.cost, -1)
		tell(t, b, math.MaxUint32, -1, c.cost, -1)
		tell(t, b, 0, 0, 0, -1)
		tell(t, b, 0, -2, 0, -1)
		if b.Least() != c.cost {
			t.Errorf("%v: Least is %d", c.prefix, b.Least())
		}
	}
}

// P14.1: each mask, with bits that are none, and each place, with those that are none, of what is drawn, against all ways that there are.
func TestTableOfAllMasks(t *testing.T) {
	r := rand.New(rand.NewPCG(14, 1))
	for _, c := range [][2]int{{0, 0}, {1, 0}, {0, 1}, {0, 2}, {1, 1}, {2, 0}, {0, 4}, {1, 2}, {2, 1}, {3, 0}, {1, 4}, {2, 2}} {
		for _, most := range []int64{0, 1, 2, 5, 1000, api.MaxTime} {
			x, d := some(t, r, c[0], c[1], most)
			b := New(x, d)
			n := len(d.Stops)
			for mask := range uint32(1) << n {
				for last := -1; last < n; last++ {
					cost, next := least(x, d, mask, last)
					tell(t, b, mask, last, cost, next)
					tell(t, b, mask|math.MaxUint32<<n, last, cost, next)
					tell(t, b, mask|1<<31, last, cost, next)
				}
				for _, last := range []int{-2, n, n + 1, 32, math.MinInt, math.MaxInt} {
					tell(t, b, mask, last, 0, -1)
				}
			}
			if cost, _ := least(x, d, 0, -1); b.Least() != cost {
				t.Errorf("%+v: Least is %d, not %d", d, b.Least(), cost)
			}
		}
	}
}

// P14.1: as many as may be, with times as long as may be.
func TestTheBounds(t *testing.T) {
	x := line(8)
	for i := range x.Stops {
		times := slices.Repeat([]int64{api.MaxTime}, len(x.Stops))
		times[i] = 0
		x.Matrix = append(x.Matrix, times)
	}
	eight := []int{1, 2, 3, 4, 5, 6, 7, 8}
	b := New(x, made(t, x, []int{0}, eight))
	for mask := range uint32(1) << 16 {
		// Nowhere twice, so each stop of the rest and the end's depot takes the time.
		left := int64(17 - bits.OnesCount32(mask))
		if got := b.At(mask, -1); got != left*api.MaxTime {
			t.Fatalf("%b: %d", mask, got)
		}
	}
	if b.Least() != 17*api.MaxTime {
		t.Errorf("Least: %d", b.Least())
	}
	x.Matrix = nil
	b = New(x, made(t, x, []int{0}, eight))
	for mask, last := uint32(0), -1; ; {
		next := b.Next(mask, last)
		if next != last+1 && last < 15 || last == 15 && next != -1 {
			t.Fatalf("on the line, behind %d: %d", last, next)
		}
		if next == -1 {
			break
		}
		mask, last = mask|1<<next, next
	}
	if b.Least() != 32 {
		t.Errorf("on the line: %d", b.Least())
	}
	b = New(x, made(t, x, append([]int{0}, eight...), nil))
	if b.Least() != 24 {
		t.Errorf("all on board: %d", b.Least())
	}
}

// P14.2: no order costs less than the least, and one costs that: the one gone from Next to Next, which is the least of those.
func TestLeastIsAnOrdersCost(t *testing.T) {
	r := rand.New(rand.NewPCG(14, 2))
	ties := 0
	for _, c := range [][2]int{{0, 0}, {0, 1}, {1, 0}, {1, 1}, {0, 3}, {2, 0}, {2, 1}, {1, 3}, {3, 0}, {2, 3}} {
		for _, most := range []int64{1, 4, 100, api.MaxTime, 2, 3, 5} {
			x, d := some(t, r, c[0], c[1], most)
			b := New(x, d)
			behind := func(order []int) int64 { return inst.Path(x, d.Row(order)[len(d.Prefix)-1:]) }
			var best []int
			many := 0
			for order := range d.Orders() {
				switch cost := behind(order); {
				case cost < b.Least():
					t.Fatalf("%+v: %v costs %d, less than %d", d, order, cost, b.Least())
				case cost == b.Least():
					if many == 0 {
						best = order
					}
					many++
				}
			}
			if many > 1 {
				ties++
			}
			var gone []int
			mask, last, left := uint32(0), -1, b.Least()
			for next := b.Next(0, -1); next >= 0; next = b.Next(mask, last) {
				left -= inst.Travel(x, from(d, last), d.Stops[next])
				gone = append(gone, next)
				mask, last = mask|1<<next, next
				if left != b.At(mask, last) {
					t.Fatalf("%+v, behind %v: %d is left, not %d", d, gone, left, b.At(mask, last))
				}
			}
			if mask != d.Full() || many == 0 || !slices.Equal(gone, best) || behind(gone) != b.Least() {
				t.Errorf("%+v: %v, not %v", d, gone, best)
			}
		}
	}
	if ties < 10 {
		t.Errorf("hardly any that are as cheap: %d", ties)
	}
}

// P14.1: a Todo that layer 13 doesn't answer, and an instance that isn't right, have a table too.
func TestAnyTodo(t *testing.T) {
	x := line(2)
	b := New(x, todo.Todo{Stops: []int{1, 2, 3}, After: []int{1, 0}, Prefix: []int{0}})
	for mask, c := range []struct {
		cost int64
		next int
	}{{0, -1}, {2 + 1 + 3, 1}, {1 + 2 + 3, 0}, {3 + 3, 2}, {0, -1}, {2 + 2, 1}, {1 + 1, 0}, {0, -1}} {
		tell(t, b, uint32(mask), -1, c.cost, c.next)
	}
	tell(t, &Table{}, 3, -1, 0, -1)
	tell(t, New(api.Instance{}, todo.Todo{}), 0, -1, 0, -1)
	tell(t, New(x, todo.Todo{Stops: []int{9, -1}, End: 77, Prefix: []int{math.MinInt}}), 0, -1, 0, 0)
	for _, n := range []int{17, 32, 33, 100000} {
		b := New(x, todo.Todo{Stops: make([]int, n), Prefix: []int{1}})
		tell(t, b, 0, -1, 0, -1)
		tell(t, b, math.MaxUint32, n-1, 0, -1)
	}
	tell(t, New(x, todo.Todo{Stops: slices.Repeat([]int{1, 2}, 8), Prefix: []int{0}, End: 2}), 0, -1, 2, 0)
	x.Matrix = [][]int64{{0, math.MinInt64, math.MaxInt64}, {5, 0, math.MinInt64}, {math.MaxInt64}}
	b = New(x, todo.Todo{Stops: []int{1, 2}, Prefix: []int{0}})
	tell(t, b, 0, -1, -api.MaxTime-api.MaxTime+api.MaxTime, 0)
	tell(t, b, 0, 1, 0-api.MaxTime+api.MaxTime, 0)
}

// P14.1: what is handed in stays, and isn't kept: it may be written over behind the call.
func TestWhatIsHandedInStays(t *testing.T) {
	r := rand.New(rand.NewPCG(14, 3))
	x, d := some(t, r, 2, 1, 9)
	y, c := x, d
	y.Matrix = slices.Clone(x.Matrix)
	for i := range y.Matrix {
		y.Matrix[i] = slices.Clone(x.Matrix[i])
	}
	c.Prefix, c.Stops, c.After = slices.Clone(d.Prefix), slices.Clone(d.Stops), slices.Clone(d.After)
	b := New(y, c)
	if !inst.Same(x, y) || !slices.Equal(c.Prefix, d.Prefix) || !slices.Equal(c.Stops, d.Stops) || !slices.Equal(c.After, d.After) {
		t.Errorf("%+v, %+v", y, c)
	}
	for i := range y.Matrix {
		clear(y.Matrix[i])
	}
	clear(c.Prefix)
	clear(c.Stops)
	clear(c.After)
	for mask := range uint32(1) << len(d.Stops) {
		for last := -1; last < len(d.Stops); last++ {
			cost, next := least(x, d, mask, last)
			tell(t, b, mask, last, cost, next)
		}
	}
	spare := append(make([]int, 0, 9), d.Stops...)
	New(x, todo.Todo{Prefix: d.Prefix, Stops: spare, After: d.After, End: d.End})
	if got := spare[:9][len(d.Stops):]; slices.Max(got) != 0 {
		t.Errorf("behind the stops: %v", got)
	}
}
