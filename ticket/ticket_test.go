package ticket

import (
	"math"
	"slices"
	"testing"

	"jitney/api"
	"jitney/plan"
)

// lying is an instance of requests from place to place on a line, one seat each, with cars of so many seats; nothing else holds anybody.
func lying(seats []int, places ...[2]float64) api.Instance {
	n := len(places)
	x := api.Instance{Rides: slices.Repeat([]int64{1000}, n), Stops: make([]api.Stop, 2*n+2)}
	for _, many := range seats {
		x.Cars = append(x.Cars, api.Car{Cap: api.Load{Seats: many}, Max: 1000})
	}
	for i := range x.Stops {
		x.Stops[i].Late = 1000
	}
	for i, p := range places {
		x.Stops[1+i].Spot, x.Stops[1+n+i].Spot = complex(p[0], 0), complex(p[1], 0)
		x.Stops[1+i].Load.Seats, x.Stops[1+n+i].Load.Seats = 1, -1
	}
	return x
}

// three is three requests; the services of their pickups are 0, 1 and 20, those of their drops 300.
func three() api.Instance {
	x := lying([]int{2, 2}, [2]float64{1, 3}, [2]float64{2, 4}, [2]float64{3, 5})
	x.Stops[2].Service, x.Stops[3].Service = 1, 20
	for i := range 3 {
		x.Stops[4+i].Service = 300
	}
	return x
}

func planOf(rows [][]int, times [][]int64) plan.Plan {
	return plan.Plan{Routes: rows, Times: times}
}

func served(id, car int, pick, drop, ride int64) Line {
	return Line{ID: id, Car: car, Pick: pick, Drop: drop, Ride: ride, Served: true}
}

// P24.1: the chapter's example.
func TestOfTheExample(t *testing.T) {
	x := api.Instance{Cars: []api.Car{{Cap: api.Load{Seats: 1}, Max: 100}}, Rides: []int64{20}, Stops: []api.Stop{{Late: 100}, {Load: api.Load{Seats: 1}, Service: 1, Late: 50}, {Load: api.Load{Seats: -1}, Service: 1, Late: 90, Spot: 3 + 4i}, {Late: 100}}}
	p, e := plan.Make(x, []api.Tour{{Seq: []int{0, 1, 2, 3}}}, 0, []int{1})
	if text := Print(Of(x, p, []int{1})); e != api.OK || text != "1 0 0 6 5\n" {
		t.Errorf("%q, %d", text, e)
	}
}

// P24.1: of whom there are lines, and in which order.
func TestOfWhom(t *testing.T) {
	p := planOf([][]int{{0, 1, 4, 7}, {0, 3, 6, 7}}, [][]int64{{0, 1, 3, 400}, {5, 10, 50, 600}})
	first, second, third := served(1, 0, 1, 3, 2), Line{ID: 2}, served(3, 1, 10, 50, 20)
	for _, c := range []struct {
		what   string
		booked []int
		want   []Line
	}{
		{"all", []int{1, 2, 3}, []Line{first, second, third}}, {"the other way", []int{3, 2, 1}, []Line{first, second, third}}, {"often", []int{2, 3, 2, 3, 2, 3, 3}, []Line{second, third}}, {"one", []int{3}, []Line{third}}, {"one who isn't served", []int{2}, []Line{second}}, {"first and last", []int{3, 1}, []Line{first, third}},
		{"nobody", nil, nil}, {"nobody in an empty list", []int{}, nil}, {"none that is one", []int{0, 4, -1, 7, math.MinInt, math.MaxInt}, nil}, {"one of them is", []int{0, 4, 1, -1, -3, 8, 1}, []Line{first}},
	} {
		if got := Of(three(), p, c.booked); !slices.Equal(got, c.want) {
			t.Errorf("%s: %+v, not %+v", c.what, got, c.want)
		}
	}
}

// P24.1: who is served by which car, of plans of all kinds.
func TestOfWhichCar(t *testing.T) {
	row, times := []int{0, 2, 5, 7}, []int64{1, 10, 100, 1000}
	nobody := Line{ID: 2}
	by := func(car int) Line { return served(2, car, 10, 100, 89) }
	for _, c := range []struct {
		what  string
		rows  [][]int
		times [][]int64
		want  Line
	}{
		{"the first car", [][]int{row}, [][]int64{times}, by(0)}, {"the first of two", [][]int{row, row}, [][]int64{times, {2, 20, 200, 2000}}, by(0)}, {"the second one", [][]int{{0, 7}, row}, [][]int64{nil, times}, by(1)}, {"a car that there isn't", [][]int{{0, 7}, {0, 7}, nil, {}, row}, [][]int64{nil, nil, nil, nil, times}, by(4)},
		{"no plan", nil, nil, nobody}, {"idle ones", [][]int{{0, 7}, {0, 7}}, [][]int64{nil, nil}, nobody}, {"another one's", [][]int{{0, 1, 4, 7}}, [][]int64{times}, nobody},
		{"no times", [][]int{row}, nil, nobody}, {"no times there", [][]int{row}, [][]int64{nil}, nobody}, {"none for the drop", [][]int{row}, [][]int64{{1, 10}}, nobody}, {"none for the pickup", [][]int{row}, [][]int64{{1}}, nobody}, {"just enough", [][]int{row}, [][]int64{{1, 10, 100}}, by(0)}, {"more than stops", [][]int{row}, [][]int64{{1, 10, 100, 1000, 10000, 5}}, by(0)},
		{"no times of the first car", [][]int{row, row}, [][]int64{nil, times}, by(1)}, {"too few of the first car", [][]int{row, row}, [][]int64{{1, 11}, times}, by(1)}, {"no times of the last car", [][]int{{0, 7}, row}, [][]int64{nil}, nobody}, {"times without a row", [][]int{{0, 7}}, [][]int64{nil, times}, nobody}, {"times of the other one", [][]int{row, {0, 7}}, [][]int64{nil, times}, nobody},
		{"a pickup alone", [][]int{{0, 2, 7}}, [][]int64{times}, nobody}, {"a drop alone", [][]int{{0, 5, 7}}, [][]int64{times}, nobody}, {"in two rows", [][]int{{0, 2, 7}, {0, 5, 7}}, [][]int64{times, times}, nobody}, {"so the other way", [][]int{{0, 5, 7}, {0, 2, 7}}, [][]int64{times, times}, nobody}, {"first half, then whole", [][]int{{0, 2, 7}, {0, 7, 5}, row}, [][]int64{times, times, times}, by(2)}, {"the drop of the next one", [][]int{{0, 2, 6, 7}}, [][]int64{times}, nobody},
		{"the drop ahead", [][]int{{0, 5, 2, 7}}, [][]int64{times}, served(2, 0, 100, 10, -91)}, {"without depots", [][]int{{2, 5}}, [][]int64{times}, served(2, 0, 1, 10, 8)}, {"the drop ahead, alone timed", [][]int{{5, 2}}, [][]int64{{7}}, nobody}, {"twice", [][]int{{2, 5, 2, 5}}, [][]int64{{9, 8, 7, 6}}, served(2, 0, 9, 8, -2)}, {"the drop twice ahead", [][]int{{5, 5, 2, 2}}, [][]int64{{9, 8, 7, 5}}, served(2, 0, 7, 9, 1)}, {"twice, once timed", [][]int{{2, 2, 5}}, [][]int64{{9, 8, 7}}, served(2, 0, 9, 7, -3)},
		{"no such stops", [][]int{{-1, 8, 2, math.MinInt, math.MaxInt, 5, -2}}, [][]int64{{1, 2, 3, 4, 5, 6, 7}}, served(2, 0, 3, 6, 2)}, {"times below 0", [][]int{row}, [][]int64{{-9, -8, -3, -1}}, served(2, 0, -8, -3, 4)}, {"great ones", [][]int{row}, [][]int64{{0, 5, 1 << 60, 0}}, served(2, 0, 5, 1<<60, 1<<60-6)}, {"all at 0", [][]int{row}, [][]int64{{0, 0, 0, 0}}, served(2, 0, 0, 0, -1)},
	} {
		if got := Of(three(), planOf(c.rows, c.times), []int{2}); !slices.Equal(got, []Line{c.want}) {
			t.Errorf("%s: %+v, not %+v", c.what, got, c.want)
		}
	}
}

// P24.1: what else a plan says isn't asked.
func TestOfWhoIsLeft(t *testing.T) {
	p := plan.Plan{Routes: [][]int{{0, 1, 4, 7}}, Times: [][]int64{{0, 1, 3, 400}}, Left: []int{1, 3}, Cost: -4}
	if got := Of(three(), p, []int{1, 2}); !slices.Equal(got, []Line{served(1, 0, 1, 3, 2), {ID: 2}}) {
		t.Errorf("%+v", got)
	}
}

// P24.1: the ride of whoever's pickup is no stop is 0; the drop's stop isn't asked.
func TestOfWhereStopsAreMissing(t *testing.T) {
	p := planOf([][]int{{1, 2, 3, 4, 5, 6}}, [][]int64{{1, 2, 3, 10, 200, 3000}})
	for _, c := range []struct {
		stops int
		rides []int64
	}{{0, []int64{0, 0, 0}}, {1, []int64{0, 0, 0}}, {2, []int64{9, 0, 0}}, {3, []int64{9, 197, 0}}, {4, []int64{9, 197, 2977}}, {7, []int64{9, 197, 2977}}, {8, []int64{9, 197, 2977}}} {
		x := three()
		x.Stops = x.Stops[:c.stops]
		want := []Line{served(1, 0, 1, 10, c.rides[0]), served(2, 0, 2, 200, c.rides[1]), served(3, 0, 3, 3000, c.rides[2])}
		if got := Of(x, p, []int{1, 2, 3}); !slices.Equal(got, want) {
			t.Errorf("%d stops: %+v, not %+v", c.stops, got, want)
		}
	}
	if got := Of(api.Instance{}, p, []int{0, 1, 2, 3}); len(got) != 0 {
		t.Errorf("no instance: %+v", got)
	}
	if got := Of(api.Instance{Stops: make([]api.Stop, 8)}, p, []int{0, 1, 2, 3}); len(got) != 0 {
		t.Errorf("no rides: %+v", got)
	}
}

// P24.1: lines by hand.
func TestPrint(t *testing.T) {
	for _, c := range []struct {
		lines []Line
		want  string
	}{
		{nil, ""}, {[]Line{}, ""}, {[]Line{served(1, 0, 0, 6, 5)}, "1 0 0 6 5\n"}, {[]Line{{ID: 2}}, "2 unserved\n"}, {[]Line{served(1, 1, 4, 9, 5), {ID: 2}, served(12, 34, 56, 78, 90)}, "1 1 4 9 5\n2 unserved\n12 34 56 78 90\n"},
		{[]Line{{ID: 2}, {ID: 1}, {ID: 1}}, "2 unserved\n1 unserved\n1 unserved\n"}, {[]Line{{ID: 3, Car: 4, Pick: 5, Drop: 6, Ride: 7}}, "3 unserved\n"}, {[]Line{{}}, "0 unserved\n"}, {[]Line{{Served: true}}, "0 0 0 0 0\n"}, {[]Line{served(-1, -2, -3, -4, -5), {ID: -6}}, "-1 -2 -3 -4 -5\n-6 unserved\n"},
		{[]Line{served(math.MinInt, math.MaxInt, math.MinInt64, math.MaxInt64, math.MinInt64)}, "-9223372036854775808 9223372036854775807 -9223372036854775808 9223372036854775807 -9223372036854775808\n"}, {[]Line{served(0, 10, 100, 1000, api.MaxTime)}, "0 10 100 1000 1099511627776\n"},
	} {
		if got := Print(c.lines); got != c.want {
			t.Errorf("%+v: %q, not %q", c.lines, got, c.want)
		}
	}
}

// P24.1: the first line of an ID.
func TestFind(t *testing.T) {
	lines := []Line{{ID: 4}, served(2, 0, 1, 2, 3), served(2, 1, 4, 5, 6), {ID: 0}, {ID: -1}, served(4, 7, 7, 7, 7), {ID: math.MinInt}}
	for _, c := range []struct {
		id, at int
	}{{4, 0}, {2, 1}, {0, 3}, {-1, 4}, {math.MinInt, 6}} {
		if l, ok := Find(lines, c.id); !ok || l != lines[c.at] {
			t.Errorf("%d: %+v %v", c.id, l, ok)
		}
	}
	for _, id := range []int{1, 3, 5, -2, math.MaxInt} {
		if l, ok := Find(lines, id); ok || l != (Line{}) {
			t.Errorf("%d: %+v %v", id, l, ok)
		}
	}
	for _, none := range [][]Line{nil, {}} {
		if l, ok := Find(none, 0); ok || l != (Line{}) {
			t.Errorf("of none: %+v %v", l, ok)
		}
	}
	if l, ok := Find([]Line{{ID: 1}}, 0); ok || l != (Line{}) {
		t.Errorf("0: %+v %v", l, ok)
	}
}

// P1: of many rows, of many requests, and of long lists all ends soon.
func TestMany(t *testing.T) {
	const n = 1 << 18
	x := api.Instance{Rides: make([]int64, n)}
	p := planOf(make([][]int, n), make([][]int64, n))
	for i := range n {
		p.Routes[i], p.Times[i] = []int{n - i, 2*n - i}, []int64{int64(i), int64(i)}
	}
	all := make([]int, 2*n)
	for i := range all {
		all[i] = n - i/2
	}
	lines := Of(x, p, all)
	if len(lines) != n || lines[0] != served(1, n-1, n-1, n-1, 0) || lines[n-1] != served(n, 0, 0, 0, 0) {
		t.Errorf("%d lines, the first %+v", len(lines), lines[0])
	}
	if text := Print(lines); len(text) < 8*n {
		t.Errorf("%d bytes", len(text))
	}
	if l, ok := Find(lines, n); !ok || l.Car != 0 {
		t.Errorf("%+v", l)
	}
	long := planOf([][]int{slices.Concat(all, all)}, [][]int64{make([]int64, 4*n)})
	if lines := Of(x, long, []int{1}); !slices.Equal(lines, []Line{{ID: 1}}) {
		t.Errorf("of one long row: %+v", lines)
	}
}
