package ticket

import (
	"jitney/api"
	"jitney/inst"
	"jitney/plan"
)

// telling is the lines of all requests, from 1 on, as far as the cars' rows were gone through.
//
// Each row is gone through once for all requests: a plan may have many of both.
type telling struct {
	x     api.Instance
	lines []Line
	met   []mark // of each stop
}

// mark is where a stop was met last: by which car, from 1 on, and its first place in that one's row.
type mark struct{ car, place int }

// ofAll is the lines of all requests.
func ofAll(x api.Instance, p plan.Plan) []Line {
	n := inst.Count(x)
	t := telling{x: x, lines: make([]Line, n), met: make([]mark, 2*n+2)}
	for i := range t.lines {
		t.lines[i].ID = i + 1
	}
	for car := range min(len(p.Routes), len(p.Times)) {
		row, times := p.Routes[car], p.Times[car]
		t.goBy(car, row[:min(len(row), len(times))], times) // a stop behind these has no time
	}
	return t.lines
}

// goBy tells by a car's row, of which all stops have times, those whom no car ahead serves.
func (t *telling) goBy(car int, row []int, times []int64) {
	for place, stop := range row {
		if inst.Request(t.x, stop) != 0 && t.met[stop].car != car+1 {
			t.met[stop] = mark{car + 1, place}
		}
	}
	stands := func(stop int) bool { return t.met[stop].car == car+1 }
	for _, stop := range row {
		request := inst.Request(t.x, stop)
		if request == 0 || t.lines[request-1].Served {
			continue
		}
		if pick, drop := inst.Pick(t.x, request), inst.Drop(t.x, request); stands(pick) && stands(drop) {
			t.serve(request, car, times[t.met[pick].place], times[t.met[drop].place])
		}
	}
}

func (t *telling) serve(request, car int, pick, drop int64) {
	l := Line{ID: request, Car: car, Pick: pick, Drop: drop, Served: true}
	if stop := inst.Pick(t.x, request); stop < len(t.x.Stops) {
		l.Ride = drop - pick - t.x.Stops[stop].Service
	}
	t.lines[request-1] = l
}
