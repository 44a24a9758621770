package ticket

import (
	"math/rand/v2"
	"slices"
	"testing"

	"jitney/api"
	"jitney/insert"
	"jitney/inst"
	"jitney/plan"
	"jitney/regret"
	"jitney/sched"
)

// drawnPlan is rows and times of whatever length and content, so many that requests are often served.
func drawnPlan(draws *rand.Rand, n int) plan.Plan {
	var p plan.Plan
	for range draws.IntN(4) {
		row := make([]int, draws.IntN(12))
		for i := range row {
			row[i] = draws.IntN(2*n+4) - 1
		}
		p.Routes = append(p.Routes, row)
	}
	for range len(p.Routes) + draws.IntN(3) - 1 {
		times := make([]int64, draws.IntN(14))
		for i := range times {
			times[i] = draws.Int64N(200) - 20
		}
		p.Times = append(p.Times, times)
	}
	return p
}

// lineOf is the line of a request, said by this test's own words.
func lineOf(x api.Instance, p plan.Plan, request int) Line {
	for car, row := range p.Routes {
		if car >= len(p.Times) {
			break
		}
		times := p.Times[car]
		pick, drop := slices.Index(row, request), slices.Index(row, len(x.Rides)+request)
		if pick < 0 || drop < 0 || pick >= len(times) || drop >= len(times) {
			continue
		}
		l := Line{ID: request, Car: car, Pick: times[pick], Drop: times[drop], Served: true}
		if request < len(x.Stops) {
			l.Ride = times[drop] - times[pick] - x.Stops[request].Service
		}
		return l
	}
	return Line{ID: request}
}

func linesOf(x api.Instance, p plan.Plan, booked []int) []Line {
	var lines []Line
	for request := 1; request <= len(x.Rides); request++ {
		if slices.Contains(booked, request) {
			lines = append(lines, lineOf(x, p, request))
		}
	}
	return lines
}

func drawnList(draws *rand.Rand, n int) []int {
	list := make([]int, draws.IntN(2*n+3))
	for i := range list {
		list[i] = draws.IntN(n+4) - 2
	}
	return list
}

// P24.1: lines of drawn plans, which needn't be any, are as the chapter's words.
func TestOfDrawnPlans(t *testing.T) {
	draws := rand.New(rand.NewPCG(1, 2))
	by, nobody := map[int]int{}, 0
	for range 30000 {
		x := api.Instance{Rides: make([]int64, draws.IntN(5))}
		x.Stops = make([]api.Stop, draws.IntN(2*len(x.Rides)+4))
		for i := range x.Stops {
			x.Stops[i].Service = draws.Int64N(9)
		}
		p, booked := drawnPlan(draws, len(x.Rides)), drawnList(draws, len(x.Rides))
		want := linesOf(x, p, booked)
		for range 2 {
			if got := Of(x, p, booked); !slices.Equal(got, want) {
				t.Fatalf("%+v, %+v, %v: %+v, not %+v", x, p, booked, got, want)
			}
		}
		for _, l := range want {
			if l.Served {
				by[l.Car]++
			} else {
				nobody++
			}
		}
	}
	if by[0] < 1000 || by[1] < 500 || by[2] < 200 || nobody < 5000 {
		t.Errorf("hardly asked: %v, %d", by, nobody)
	}
}

// drawnInstance is an instance of a few requests, with services and windows, and a Matrix as often as none.
func drawnInstance(draws *rand.Rand) api.Instance {
	x := lying(nil, make([][2]float64, draws.IntN(8))...)
	for range 1 + draws.IntN(3) {
		x.Cars = append(x.Cars, api.Car{Cap: api.Load{Seats: 1 + draws.IntN(3)}, Max: 200 + draws.Int64N(800)})
	}
	for i := range x.Stops {
		s := &x.Stops[i]
		s.Spot = complex(float64(draws.IntN(19)-9), float64(draws.IntN(19)-9))
		s.Early = draws.Int64N(100) * draws.Int64N(2)
		s.Late = s.Early + 20 + draws.Int64N(300)
		if inst.Request(x, i) != 0 {
			s.Service = draws.Int64N(6)
		}
	}
	x.Stops[0].Early, x.Stops[len(x.Stops)-1].Late = 0, 1000
	if draws.IntN(2) == 0 {
		for range x.Stops {
			times := make([]int64, len(x.Stops))
			for i := range times {
				times[i] = draws.Int64N(30)
			}
			x.Matrix = append(x.Matrix, times)
		}
	}
	return x
}

// drawnTours is tours that serve some, with pins at their times now and then.
func drawnTours(draws *rand.Rand, x api.Instance) []api.Tour {
	tours := regret.Start(x, 0)
	for _, i := range draws.Perm(len(x.Rides)) {
		car := draws.IntN(len(tours))
		places := slices.Collect(insert.All(x, car, tours[car], 0, i+1))
		if len(places) > 0 && draws.IntN(5) > 0 {
			tours[car] = insert.Put(x, tours[car], i+1, places[draws.IntN(len(places))])
		}
	}
	for car, one := range tours {
		r, e := sched.Plan(x, car, one.Seq, 0, nil)
		if e == api.OK && draws.IntN(2) == 0 {
			for at := range draws.IntN(len(one.Seq) + 1) {
				tours[car].Pins = append(tours[car].Pins, api.Pin{At: at, Time: r.Times[at]})
			}
		}
	}
	return tours
}

// P24.2: what is printed of drawn plans is parsed as it: each who has booked once, rising, with the ride that the times say.
func TestTicketsOfDrawnPlans(t *testing.T) {
	draws := rand.New(rand.NewPCG(3, 4))
	driven, nobody := 0, 0
	for range 4000 {
		x := drawnInstance(draws)
		booked := draws.Perm(len(x.Rides) + 1)
		p, e := plan.Make(x, drawnTours(draws, x), 0, booked)
		if e != api.OK {
			t.Fatalf("%+v: %d", x, e)
		}
		lines := Of(x, p, booked)
		parsed(t, Print(lines), lines...)
		if len(lines) != len(x.Rides) {
			t.Fatalf("%+v: %d lines", p, len(lines))
		}
		for i, l := range lines {
			if l.ID != i+1 || l != lineOf(x, p, i+1) {
				t.Fatalf("%+v: %+v, not %+v", p, l, lineOf(x, p, i+1))
			}
			if l.Served == slices.Contains(p.Left, l.ID) || l.Ride < 0 || l.Ride > x.Rides[i] || l.Served && l.Pick+x.Stops[i+1].Service+l.Ride != l.Drop {
				t.Fatalf("%+v: %+v", p, l)
			}
			if l.Served {
				driven++
			} else {
				nobody++
			}
		}
	}
	if driven < 3000 || nobody < 2000 {
		t.Errorf("hardly asked: %d served, %d not", driven, nobody)
	}
}

// What is handed in stays as it is, what lies behind it too, and what is answered isn't turned by what is handed in.
func TestTicketsTurnNothing(t *testing.T) {
	draws := rand.New(rand.NewPCG(5, 6))
	for range 2000 {
		x := drawnInstance(draws)
		n := len(x.Rides)
		p := drawnPlan(draws, n)
		row, times, booked := drawnPlan(draws, n).Routes, drawnPlan(draws, n).Times, drawnList(draws, n+9)
		all, list := slices.Concat(row...), slices.Concat(times...)
		p.Routes, p.Times = append(p.Routes, all[:len(all)/2]), append(p.Times, list[:len(list)/2])
		keptRows, keptTimes, keptBooked := slices.Clone(all), slices.Clone(list), slices.Clone(booked)
		lines := Of(x, p, booked[:len(booked)/2])
		want := linesOf(x, p, keptBooked[:len(booked)/2])
		Print(lines)
		if len(lines) > 0 {
			Find(lines, lines[0].ID)
		}
		if !slices.Equal(all, keptRows) || !slices.Equal(list, keptTimes) || !slices.Equal(booked, keptBooked) {
			t.Fatal("what is handed in is turned")
		}
		clear(all)
		clear(list)
		clear(booked)
		clear(x.Stops)
		if !slices.Equal(lines, want) {
			t.Fatalf("%+v, not %+v", lines, want)
		}
	}
	lines := []Line{{ID: 3}, served(1, 2, 3, 4, 5), {ID: 9}, {ID: 9}}
	kept := slices.Clone(lines)
	Print(lines[:2])
	Find(lines[:2], 9)
	if !slices.Equal(lines, kept) {
		t.Error("lines are turned")
	}
}
