package todo

import (
	"math"
	"math/rand/v2"
	"slices"
	"testing"

	"jitney/api"
	"jitney/inst"
	"jitney/seqn"
)

// riding is a right instance of so many requests, with room for all.
func riding(n int) api.Instance {
	x := api.Instance{Cars: []api.Car{{Cap: api.Load{Seats: api.MaxSeats}}}, Rides: make([]int64, n), Stops: make([]api.Stop, 2*n+2)}
	for i := range n {
		x.Stops[i+1].Load.Seats, x.Stops[n+i+1].Load.Seats = 1, -1
	}
	return x
}

// made is what New answers where it must answer.
func made(t *testing.T, x api.Instance, prefix, waiting []int) Todo {
	t.Helper()
	d, e := New(x, prefix, waiting)
	if e != api.OK {
		t.Fatalf("New of %v, %v: %d", prefix, waiting, e)
	}
	return d
}

func same(a, b Todo) bool {
	return slices.Equal(a.Prefix, b.Prefix) && slices.Equal(a.Stops, b.Stops) && slices.Equal(a.After, b.After) && a.End == b.End
}

// zero tells whether it is the zero value: no lists that are empty, but nil ones.
func zero(d Todo) bool {
	return d.Prefix == nil && d.Stops == nil && d.After == nil && d.End == 0
}

// wanted is what New must tell of a right instance, said list by list.
func wanted(x api.Instance, prefix, waiting []int) (Todo, api.Errno) {
	n := len(x.Rides)
	if len(prefix) == 0 || prefix[0] != 0 {
		return Todo{}, api.ErrDepot
	}
	for i, stop := range prefix {
		if i > 0 && (stop < 1 || stop > 2*n || slices.Contains(prefix[:i], stop)) {
			return Todo{}, api.ErrNode
		}
	}
	for i, stop := range prefix {
		if stop > n && !slices.Contains(prefix[:i], stop-n) {
			return Todo{}, api.ErrPair
		}
	}
	for _, request := range waiting {
		if request < 1 || request > n {
			return Todo{}, api.ErrNone
		}
	}
	for i, request := range waiting {
		if slices.Contains(waiting[:i], request) || slices.Contains(prefix, request) {
			return Todo{}, api.ErrTwice
		}
	}
	d := Todo{Prefix: prefix, End: 2*n + 1}
	for request := 1; request <= n; request++ {
		if slices.Contains(waiting, request) {
			d.Stops = append(d.Stops, request)
		}
	}
	pickups := len(d.Stops)
	for request := 1; request <= n; request++ {
		aboard := slices.Contains(prefix, request) && !slices.Contains(prefix, n+request)
		if aboard || slices.Contains(waiting, request) {
			d.Stops = append(d.Stops, n+request)
		}
	}
	if len(d.Stops)-pickups > api.MaxSmall {
		return Todo{}, api.ErrMany
	}
	for _, stop := range d.Stops {
		d.After = append(d.After, slices.Index(d.Stops, max(stop-n, 0)))
	}
	return d, api.OK
}

// lists calls with all lists of up to so many numbers, from one number up to another one.
func lists(most, low, high int, call func(list []int)) {
	var longer func(list []int)
	longer = func(list []int) {
		call(list)
		if len(list) == most {
			return
		}
		for n := low; n <= high; n++ {
			longer(append(slices.Clone(list), n))
		}
	}
	longer(nil)
}

// P13.1: New, reckoned by hand.
func TestNew(t *testing.T) {
	x := riding(3)
	for _, c := range []struct {
		prefix, waiting, stops, after []int
	}{
		{[]int{0}, nil, nil, nil},
		{[]int{0, 1, 4, 3, 2, 5, 6}, []int{}, nil, nil},
		{[]int{0}, []int{2}, []int{2, 5}, []int{-1, 0}},
		{[]int{0}, []int{3, 1}, []int{1, 3, 4, 6}, []int{-1, -1, 0, 1}},
		{[]int{0}, []int{3, 2, 1}, []int{1, 2, 3, 4, 5, 6}, []int{-1, -1, -1, 0, 1, 2}},
		{[]int{0, 2}, nil, []int{5}, []int{-1}},
		{[]int{0, 2}, []int{3}, []int{3, 5, 6}, []int{-1, -1, 0}},
		{[]int{0, 3, 1}, []int{2}, []int{2, 4, 5, 6}, []int{-1, -1, 0, -1}},
		{[]int{0, 3, 1, 6}, []int{2}, []int{2, 4, 5}, []int{-1, -1, 0}},
		{[]int{0, 1, 2, 3}, nil, []int{4, 5, 6}, []int{-1, -1, -1}},
	} {
		want := Todo{Prefix: c.prefix, Stops: c.stops, After: c.after, End: 7}
		if got := made(t, x, c.prefix, c.waiting); !same(got, want) {
			t.Errorf("%v, %v: %+v, not %+v", c.prefix, c.waiting, got, want)
		}
	}
	none := riding(0)
	if got := made(t, none, []int{0}, nil); !same(got, Todo{Prefix: []int{0}, End: 1}) {
		t.Errorf("of no requests: %+v", got)
	}
}

// P13.1: New of all short rows and lists of those that wait, and its errors.
func TestNewOfAllShortRows(t *testing.T) {
	told := map[api.Errno]int{}
	hold := func(x api.Instance, prefix, waiting []int) {
		want, e := wanted(x, prefix, waiting)
		if got, f := New(x, prefix, waiting); f != e || !same(got, want) || e != api.OK && !zero(got) {
			t.Fatalf("%v, %v: %+v, %d, not %+v, %d", prefix, waiting, got, f, want, e)
		}
		told[e]++
	}
	two, three := riding(2), riding(3)
	lists(4, -1, 6, func(prefix []int) {
		for _, waiting := range [][]int{nil, {1}, {2, 1}, {0}, {2, 2}, {1, 3}} {
			hold(two, prefix, waiting)
		}
	})
	lists(4, 1, 6, func(stops []int) {
		prefix := slices.Concat([]int{0}, stops)
		lists(2, 0, 4, func(waiting []int) { hold(three, prefix, waiting) })
	})
	lists(4, -1, 5, func(waiting []int) { hold(three, []int{0, 2}, waiting) })
	for _, e := range []api.Errno{api.OK, api.ErrDepot, api.ErrNode, api.ErrPair, api.ErrNone, api.ErrTwice} {
		if told[e] < 100 {
			t.Errorf("error %d hardly asked for: %d", e, told[e])
		}
	}
}

// P13.1: each error alone, and ahead of those that are named behind it.
func TestNewNamesTheFirstError(t *testing.T) {
	x := riding(10)
	nine := []int{1, 2, 3, 4, 5, 6, 7, 8, 9}
	for _, c := range []struct {
		prefix, waiting []int
		want            api.Errno
	}{
		{nil, nil, api.ErrDepot}, {[]int{}, []int{99}, api.ErrDepot}, {[]int{1}, nil, api.ErrDepot}, {[]int{21}, nil, api.ErrDepot}, {[]int{-1, 99, 11}, []int{99}, api.ErrDepot},
		{[]int{0, 0}, nil, api.ErrNode}, {[]int{0, 21}, nil, api.ErrNode}, {[]int{0, 22}, nil, api.ErrNode}, {[]int{0, -1}, nil, api.ErrNode},
		{[]int{0, math.MaxInt}, nil, api.ErrNode}, {[]int{0, math.MinInt}, nil, api.ErrNode}, {[]int{0, 1, 1}, nil, api.ErrNode}, {[]int{0, 1, 11, 11}, nil, api.ErrNode},
		{[]int{0, 11, 1, 1}, []int{99}, api.ErrNode}, {[]int{0, 12, 21}, []int{0}, api.ErrNode},
		{[]int{0, 11}, nil, api.ErrPair}, {[]int{0, 11, 1}, nil, api.ErrPair}, {[]int{0, 1, 12}, []int{0}, api.ErrPair}, {[]int{0, 1, 12, 2}, []int{1, 1}, api.ErrPair},
		{[]int{0}, []int{0}, api.ErrNone}, {[]int{0}, []int{11}, api.ErrNone}, {[]int{0}, []int{-1}, api.ErrNone}, {[]int{0}, []int{math.MaxInt}, api.ErrNone},
		{[]int{0, 1}, []int{1, 2, 2, 11}, api.ErrNone}, {[]int{0}, append(slices.Clone(nine), 0), api.ErrNone},
		{[]int{0}, []int{1, 1}, api.ErrTwice}, {[]int{0, 1}, []int{1}, api.ErrTwice}, {[]int{0, 1, 11}, []int{1}, api.ErrTwice}, {[]int{0}, append(slices.Clone(nine), 9), api.ErrTwice},
		{[]int{0}, nine, api.ErrMany}, {[]int{0, 10}, nine[:8], api.ErrMany}, {append([]int{0}, nine...), nil, api.ErrMany}, {append([]int{0}, nine[:5]...), []int{6, 7, 8, 10}, api.ErrMany},
		{[]int{0}, nine[:8], api.OK}, {[]int{0, 10, 20}, nine[:8], api.OK}, {append([]int{0}, nine[:8]...), nil, api.OK},
		{append([]int{0, 10}, append(nine, 11, 12)...), nil, api.OK}, {append([]int{0}, nine[:7]...), []int{10}, api.OK},
	} {
		d, e := New(x, c.prefix, c.waiting)
		if e != c.want || e != api.OK && !zero(d) {
			t.Errorf("%v, %v: %+v, %d, not %d", c.prefix, c.waiting, d, e, c.want)
		}
	}
	for name, wrong := range map[string]func(x *api.Instance){
		"no car":          func(x *api.Instance) { x.Cars = nil },
		"a stop too many": func(x *api.Instance) { x.Stops = append(x.Stops, api.Stop{}) },
		"a load":          func(x *api.Instance) { x.Stops[1].Load.Seats = 2 },
		"a time":          func(x *api.Instance) { x.Rides[0] = -1 },
		"a Matrix":        func(x *api.Instance) { x.Matrix = make([][]int64, 3) },
		"nothing":         func(x *api.Instance) { *x = api.Instance{} },
	} {
		x := riding(2)
		wrong(&x)
		for _, prefix := range [][]int{{0}, nil, {0, 1}, {0, 99}} {
			if d, e := New(x, prefix, nil); e != api.ErrArg || !zero(d) {
				t.Errorf("%s: %+v, %d", name, d, e)
			}
		}
	}
}

// P13.1: New of the longest row, which leaves those that may be left, or one too many.
func TestNewOfTheLongestRow(t *testing.T) {
	const n = api.MaxStops/2 - 1
	x := riding(n)
	prefix := []int{0}
	for stop := 1; stop <= 2*n; stop++ {
		prefix = append(prefix, stop)
	}
	for left := range 20 {
		d, e := New(x, prefix[:2*n+1-left], nil)
		many := left > api.MaxSmall
		if many && (e != api.ErrMany || !zero(d)) || !many && (e != api.OK || len(d.Stops) != left || len(d.Prefix) != 2*n+1-left) {
			t.Fatalf("%d left: %d, %d stops", left, e, len(d.Stops))
		}
	}
	if _, e := New(x, []int{0}, prefix[1:n+1]); e != api.ErrMany {
		t.Errorf("all wait: %d", e)
	}
	long := slices.Repeat([]int{0, 1, 2}, 100000)
	if _, e := New(x, long, long); e != api.ErrNode {
		t.Errorf("a row that is too long: %d", e)
	}
	if _, e := New(x, []int{0}, long[1:]); e != api.ErrNone {
		t.Errorf("too many wait: %d", e)
	}
}

// some is what is to be driven by one who drew it, and its instance.
func some(r *rand.Rand, most int) (api.Instance, Todo) {
	n := r.IntN(most + 3)
	x := riding(n)
	var prefix, waiting []int
	prefix = append(prefix, 0)
	for _, request := range r.Perm(n) {
		switch kind := r.IntN(4); {
		case len(waiting) < most && kind == 0:
			waiting = append(waiting, request+1)
		case kind == 1:
			prefix = append(prefix, request+1)
		case kind == 2:
			prefix = append(prefix, request+1, n+request+1)
		}
	}
	d, e := New(x, prefix, waiting)
	if e != api.OK {
		return some(r, most)
	}
	return x, d
}

// P13.1: Full and Ready of all masks, and of bits that are none.
func TestReady(t *testing.T) {
	r := rand.New(rand.NewPCG(13, 1))
	for range 200 {
		_, d := some(r, 4)
		n := len(d.Stops)
		if d.Full() != uint32(math.Pow(2, float64(n)))-1 {
			t.Fatalf("%d stops: %b", n, d.Full())
		}
		for mask := range 1 << n {
			var want []int
			for place, first := range d.After {
				had := func(p int) bool { return mask/int(math.Pow(2, float64(p)))%2 == 1 }
				if !had(place) && (first == -1 || had(first)) {
					want = append(want, place)
				}
			}
			for _, more := range []uint32{0, math.MaxUint32 << n, 1 << n, 1 << 31} {
				if got := slices.Collect(d.Ready(uint32(mask) | more)); !slices.Equal(got, want) {
					t.Fatalf("%+v, %b: %v, not %v", d, uint32(mask)|more, got, want)
				}
			}
		}
	}
}

// P13.1: Ready and Orders end when no more is asked for, may be gone over again, and within themselves.
func TestAskedForNoMore(t *testing.T) {
	d := made(t, riding(3), []int{0}, []int{1, 2, 3})
	ready, orders := d.Ready(0), d.Orders()
	for many := range 4 {
		var places []int
		for place := range ready {
			if len(places) == many {
				break
			}
			places = append(places, place)
		}
		if !slices.Equal(places, []int{0, 1, 2}[:many]) {
			t.Errorf("%d asked for: %v", many, places)
		}
	}
	var sum int
	for a := range ready {
		for b := range ready {
			sum += 10*a + b
		}
	}
	if sum != 99 {
		t.Errorf("within itself: %d", sum)
	}
	all := slices.Collect(orders)
	for i, a := range []int{0, 1, 40, 88, 89} {
		k := 0
		for order := range orders {
			if !slices.Equal(order, all[k]) {
				t.Fatalf("gone over %d times: %v, not %v", i, order, all[k])
			}
			if k++; k > a {
				break
			}
		}
		if k != a+1 {
			t.Errorf("%d, not %d", k, a+1)
		}
	}
	var pairs int
	for range orders {
		for range orders {
			pairs++
		}
	}
	if pairs != 90*90 {
		t.Errorf("within itself: %d orders", pairs)
	}
	full := made(t, riding(8), []int{0}, []int{1, 2, 3, 4, 5, 6, 7, 8})
	for order := range full.Orders() {
		if !slices.Equal(order, []int{0, 1, 2, 3, 4, 5, 6, 7, 8, 9, 10, 11, 12, 13, 14, 15}) {
			t.Errorf("the first of 16!/2^8 orders: %v", order)
		}
		break
	}
}

// P13.1: Row of places, of some twice, and of some that are none.
func TestRow(t *testing.T) {
	d := made(t, riding(3), []int{0, 2}, []int{3, 1})
	for _, c := range []struct{ order, want []int }{
		{nil, []int{0, 2, 7}}, {[]int{}, []int{0, 2, 7}}, {[]int{0}, []int{0, 2, 1, 7}}, {[]int{4}, []int{0, 2, 6, 7}},
		{[]int{3, 1, 4, 0, 2}, []int{0, 2, 5, 3, 6, 1, 4, 7}}, {[]int{2, 0}, []int{0, 2, 4, 1, 7}}, {[]int{1, 1, 1}, []int{0, 2, 3, 3, 3, 7}},
		{[]int{-1, 5, 0, 32, math.MaxInt, 4, math.MinInt}, []int{0, 2, 1, 6, 7}},
	} {
		if got := d.Row(c.order); !slices.Equal(got, c.want) {
			t.Errorf("%v: %v, not %v", c.order, got, c.want)
		}
	}
}

// perms calls with all orders of numbers below n, the lesser ones first.
func perms(n int, call func(order []int)) {
	lists(n, 0, n-1, func(list []int) {
		if len(list) == n && len(slices.Compact(slices.Sorted(slices.Values(list)))) == n {
			call(list)
		}
	})
}

// P13.1: Orders are all orders in which each may come next, the lesser ones first.
func TestOrders(t *testing.T) {
	x := riding(4)
	for _, c := range []struct {
		prefix, waiting []int
		many            int
	}{
		{[]int{0}, nil, 1}, {[]int{0, 1}, nil, 1}, {[]int{0}, []int{1}, 1}, {[]int{0, 2}, []int{1}, 3}, {[]int{0, 1}, []int{2}, 3}, {[]int{0}, []int{4, 2}, 6},
		{[]int{0, 1, 2, 3}, nil, 6}, {[]int{0, 1, 2}, []int{3}, 12}, {[]int{0, 4, 1, 2, 3}, nil, 24}, {[]int{0, 1}, []int{2, 4}, 30}, {[]int{0}, []int{1, 2, 3}, 90},
		{[]int{0, 1, 2, 3}, []int{4}, 60}, {[]int{0, 1, 5}, []int{2, 3, 4}, 90},
	} {
		d := made(t, x, c.prefix, c.waiting)
		var want [][]int
		perms(len(d.Stops), func(order []int) {
			for at, place := range order {
				if first := d.After[place]; first >= 0 && slices.Index(order, first) > at {
					return
				}
			}
			want = append(want, order)
		})
		got := slices.Collect(d.Orders())
		if !slices.EqualFunc(got, want, slices.Equal) || len(got) != c.many {
			t.Errorf("%v, %v: %v, not %v", c.prefix, c.waiting, got, want)
		}
	}
}

// P13.2: each order has each place once, its row has each pickup ahead of its drop, and there are as many as there can be.
func TestOrdersAreRows(t *testing.T) {
	r := rand.New(rand.NewPCG(13, 2))
	told := map[int]int{}
	for range 300 {
		x, d := some(r, 3)
		waiting, aboard := 0, 0
		for i, stop := range d.Stops {
			if inst.Pick(x, inst.Request(x, stop)) == stop {
				waiting++
			} else if d.After[i] == -1 {
				aboard++
			}
		}
		many := 1
		for i := range 2*waiting + aboard {
			many *= i + 1
		}
		many >>= waiting
		if many > 10000 {
			continue
		}
		told[many]++
		var last []int
		count := 0
		for order := range d.Orders() {
			places := slices.Sorted(slices.Values(order))
			if len(places) != len(d.Stops) || len(slices.Compact(places)) != len(d.Stops) || len(places) > 0 && (places[0] != 0 || places[len(places)-1] != len(places)-1) {
				t.Fatalf("%+v: %v", d, order)
			}
			if count > 0 && slices.Compare(last, order) >= 0 {
				t.Fatalf("%+v: %v behind %v", d, order, last)
			}
			row := d.Row(order)
			if e := seqn.Check(x, 0, row); e != api.OK || !slices.Equal(row[:len(d.Prefix)], d.Prefix) {
				t.Fatalf("%+v: %v, %d", d, row, e)
			}
			last = order
			count++
		}
		if count != many {
			t.Fatalf("%+v: %d orders, not %d", d, count, many)
		}
	}
	if len(told) < 8 {
		t.Errorf("hardly any numbers of orders: %v", told)
	}
}

// P13.1: a Todo that New didn't answer has answers too: each call ends.
func TestAnyTodo(t *testing.T) {
	var none Todo
	if none.Full() != 0 || len(slices.Collect(none.Ready(math.MaxUint32))) != 0 || !slices.Equal(none.Row([]int{0}), []int{0}) {
		t.Error("the zero value")
	}
	if all := slices.Collect(none.Orders()); len(all) != 1 || len(all[0]) != 0 {
		t.Errorf("the zero value: %v", all)
	}
	for _, c := range []struct {
		after []int
		ready []int
		want  [][]int
	}{
		{nil, []int{0, 1, 2}, [][]int{{0, 1, 2}, {0, 2, 1}, {1, 0, 2}, {1, 2, 0}, {2, 0, 1}, {2, 1, 0}}},
		{[]int{-1, 0, -1, 0, 1, 99}, []int{0, 2}, [][]int{{0, 1, 2}, {0, 2, 1}, {2, 0, 1}}},
		{[]int{1, 2}, []int{2}, [][]int{{2, 1, 0}}},
		{[]int{2, 0, -1}, []int{2}, [][]int{{2, 0, 1}}},
		{[]int{0, -1, -1}, []int{1, 2}, nil},
		{[]int{-1, 2, 1}, []int{0}, nil},
		{[]int{1, 2, 0}, nil, nil},
		{[]int{-1, -1, 3}, []int{0, 1}, nil},
		{[]int{-1, math.MaxInt, 0}, []int{0}, nil},
	} {
		d := Todo{Stops: []int{7, 8, 9}, After: c.after}
		if got := slices.Collect(d.Ready(1 << 3)); !slices.Equal(got, c.ready) {
			t.Errorf("%v: %v ready, not %v", c.after, got, c.ready)
		}
		if got := slices.Collect(d.Orders()); !slices.EqualFunc(got, c.want, slices.Equal) {
			t.Errorf("%v: %v, not %v", c.after, got, c.want)
		}
	}
	long := Todo{Stops: make([]int, 1000), After: slices.Repeat([]int{-1}, 1000)}
	for i := range 500 {
		long.After[500+i] = i
	}
	if long.Full() != math.MaxUint32 || len(slices.Collect(long.Ready(0))) != 500 || len(slices.Collect(long.Ready(math.MaxUint32))) != 468+32 {
		t.Errorf("1000 stops: %b", long.Full())
	}
	for order := range long.Orders() {
		if len(order) != 1000 || !slices.IsSorted(order) {
			t.Errorf("1000 stops: %v", order)
		}
		break
	}
	for _, place := range []int{0, 999} {
		long.After[place] = place
		for order := range long.Orders() {
			t.Errorf("%d never may come: %v", place, order)
		}
		long.After[place] = -1
	}
}

// P13.1: what is handed in stays, may be written over behind the call, and shares nothing with what is answered.
func TestWhatIsHandedInStays(t *testing.T) {
	x := riding(3)
	prefix, waiting := make([]int, 2, 9), make([]int, 2, 9)
	copy(prefix, []int{0, 2})
	copy(waiting, []int{3, 1})
	d := made(t, x, prefix, waiting)
	want := Todo{Prefix: []int{0, 2}, Stops: []int{1, 3, 4, 5, 6}, After: []int{-1, -1, 0, -1, 1}, End: 7}
	if !slices.Equal(prefix[:9], []int{0, 2, 0, 0, 0, 0, 0, 0, 0}) || !slices.Equal(waiting[:9], []int{3, 1, 0, 0, 0, 0, 0, 0, 0}) {
		t.Errorf("%v, %v", prefix[:9], waiting[:9])
	}
	prefix[0], prefix[1], waiting[0] = 8, 8, 8
	if !same(d, want) {
		t.Errorf("%+v", d)
	}
	spare := d
	spare.Prefix = append(make([]int, 0, 20), d.Prefix...)
	row, other := spare.Row([]int{0}), spare.Row([]int{3})
	if !slices.Equal(row, []int{0, 2, 1, 7}) || !slices.Equal(other, []int{0, 2, 5, 7}) || spare.Prefix[:3][2] != 0 {
		t.Errorf("%v, %v, %v", row, other, spare.Prefix[:3])
	}
	row[0] = 9
	if spare.Prefix[0] != 0 {
		t.Error("a row shares memory with the prefix")
	}
	want30 := slices.Collect(d.Orders())
	k := 0
	for order := range d.Orders() {
		if k == len(want30) || !slices.Equal(order, want30[k]) {
			t.Fatalf("order %d: %v", k, order)
		}
		k++
		clear(append(order, 9)[:len(order)+1])
	}
	ready, orders := d.Ready(2), d.Orders()
	for i := range d.After {
		d.After[i], d.Stops[i] = i, 99
	}
	if got := slices.Collect(ready); !slices.Equal(got, []int{0, 3, 4}) {
		t.Errorf("written over behind the call: %v", got)
	}
	if got := slices.Collect(orders); !slices.EqualFunc(got, want30, slices.Equal) {
		t.Errorf("written over behind the call: %d orders", len(got))
	}
}
