package rule

import (
	"jitney/api"
	"jitney/inst"
)

// row is a row that a car can go by, by its stops: place i of each list is of stop i.
type row struct {
	stops  []api.Stop
	legs   []int64 // how long after a stop begins the next one can; none of the last stop
	passes []pass
	most   int64 // how long the car may be out
	clock  int64
	pins   []api.Pin
	fixed  []bool // whether a stop has a pin
}

// pass is the places of a request's pickup and drop, and how long it may ride.
type pass struct {
	pick, drop int
	most       int64
}

// newRow is the row of what check has let through.
func newRow(x api.Instance, car int, seq []int, clock int64, pins []api.Pin) row {
	r := row{most: x.Cars[car].Max, clock: clock, pins: pins, passes: passes(x, seq), fixed: make([]bool, len(seq))}
	for i, stop := range seq {
		r.stops = append(r.stops, x.Stops[stop])
		if i > 0 {
			r.legs = append(r.legs, r.stops[i-1].Service+inst.Travel(x, seq[i-1], stop))
		}
	}
	for _, pin := range pins {
		r.fixed[pin.At] = true
	}
	return r
}

// passes is one of each pickup, in order.
func passes(x api.Instance, seq []int) []pass {
	places := make([]int, len(x.Stops))
	for i, stop := range seq {
		places[stop] = i
	}
	var list []pass
	for i, stop := range seq {
		request := inst.Request(x, stop)
		if request != 0 && stop == inst.Pick(x, request) {
			list = append(list, pass{i, places[inst.Drop(x, request)], x.Rides[request-1]})
		}
	}
	return list
}

// floor is before when a stop that has no pin doesn't begin.
func (r row) floor(at int) int64 {
	return max(r.stops[at].Early, r.clock)
}

// origin is the number that is 0.
func (r row) origin() int {
	return len(r.stops)
}

func (r row) last() int {
	return len(r.stops) - 1
}

func (r row) travels() []Rule {
	var rules []Rule
	for i, leg := range r.legs {
		rules = append(rules, Rule{Travel, i, i + 1, api.Edge{From: i + 1, To: i, W: -leg}})
	}
	return rules
}

// free is a rule of each stop that has no pin.
func (r row) free(of func(at int) Rule) []Rule {
	var rules []Rule
	for i, fixed := range r.fixed {
		if !fixed {
			rules = append(rules, of(i))
		}
	}
	return rules
}

func (r row) earlies() []Rule {
	return r.free(func(at int) Rule {
		return Rule{Early, at, at, api.Edge{From: at, To: r.origin(), W: -r.floor(at)}}
	})
}

func (r row) lates() []Rule {
	return r.free(func(at int) Rule {
		return Rule{Late, at, at, api.Edge{From: r.origin(), To: at, W: r.stops[at].Late}}
	})
}

func (r row) rides() []Rule {
	var rules []Rule
	for _, p := range r.passes {
		rules = append(rules, Rule{Ride, p.pick, p.drop, api.Edge{From: p.pick, To: p.drop, W: r.stops[p.pick].Service + p.most}})
	}
	return rules
}

func (r row) length() []Rule {
	return []Rule{{Length, 0, r.last(), api.Edge{From: 0, To: r.last(), W: r.most}}}
}

func (r row) pinned() []Rule {
	var rules []Rule
	for _, pin := range r.pins {
		at := pin.At
		rules = append(rules,
			Rule{Pinned, at, at, api.Edge{From: r.origin(), To: at, W: pin.Time}},
			Rule{Pinned, at, at, api.Edge{From: at, To: r.origin(), W: -pin.Time}})
	}
	return rules
}

// drivenBy tells whether the car is at each stop when that begins.
func (r row) drivenBy(times []int64) bool {
	for i, leg := range r.legs {
		if times[i+1] < times[i]+leg {
			return false
		}
	}
	return true
}

// openAt tells whether each stop that has no pin begins within its window, and not ahead of the clock.
func (r row) openAt(times []int64) bool {
	for i, time := range times {
		if !r.fixed[i] && (time < r.floor(i) || time > r.stops[i].Late) {
			return false
		}
	}
	return true
}

// riddenBy tells whether nobody rides for too long, from the end of the pickup's service on.
func (r row) riddenBy(times []int64) bool {
	for _, p := range r.passes {
		if times[p.drop]-times[p.pick]-r.stops[p.pick].Service > p.most {
			return false
		}
	}
	return true
}

// backBy tells whether the car isn't out for too long.
func (r row) backBy(times []int64) bool {
	return times[r.last()]-times[0] <= r.most
}

// pinnedTo tells whether each stop that has a pin begins at its time.
func (r row) pinnedTo(times []int64) bool {
	for _, pin := range r.pins {
		if times[pin.At] != pin.Time {
			return false
		}
	}
	return true
}
