package slack

import (
	"math"
	"slices"

	"jitney/api"
	"jitney/inst"
	"jitney/seqn"
)

// row is a row that a car can go by, by its stops: place i of each list is of stop i.
type row struct {
	stops        []api.Stop
	gaps         []int64 // how long after a stop begins the next one can; none of the last stop
	drops        []*trip // whose drop it is; nil of other stops
	times, waits []int64
	trips        []trip // in the pickups' order
	clock, most  int64  // most is how long the car may be out
}

// trip is the places of a request's pickup and drop, how long the pickup's service takes, and how long the request may ride.
type trip struct {
	pick, drop    int
	service, most int64
}

// newRow is the row of what Run has let through, without times.
func newRow(x api.Instance, car int, seq []int, clock int64) *row {
	k := len(seq)
	r := &row{
		stops: make([]api.Stop, k), gaps: make([]int64, k-1), drops: make([]*trip, k),
		times: make([]int64, k), waits: make([]int64, k),
		trips: trips(x, seq), clock: clock, most: x.Cars[car].Max,
	}
	for i, stop := range seq {
		r.stops[i] = x.Stops[stop]
		if i > 0 {
			r.gaps[i-1] = r.stops[i-1].Service + inst.Travel(x, seq[i-1], stop)
		}
	}
	for i := range r.trips {
		r.drops[r.trips[i].drop] = &r.trips[i]
	}
	return r
}

func trips(x api.Instance, seq []int) []trip {
	var list []trip
	for _, request := range seqn.Served(x, seq) {
		pick, drop := seqn.Pair(x, seq, request)
		list = append(list, trip{pick, drop, x.Stops[inst.Pick(x, request)].Service, x.Rides[request-1]})
	}
	return list
}

// floor is before when a stop doesn't begin.
func (r *row) floor(at int) int64 {
	return max(r.stops[at].Early, r.clock)
}

// goOn lets the stops from a place on begin as soon as they can, behind the one ahead of that place.
func (r *row) goOn(from int) {
	for i := from; i < len(r.stops); i++ {
		there := r.times[i-1] + r.gaps[i-1]
		r.times[i] = max(there, r.floor(i))
		r.waits[i] = r.times[i] - there
	}
}

// wait lets a stop begin later, and the ones behind it go on.
func (r *row) wait(at int) {
	more := r.delay(at)
	r.times[at] += more
	r.waits[at] += more
	r.goOn(at + 1)
}

// delay is by how much later a stop is to begin: the waits behind it take that up ahead of the last stop, so the car isn't back any later.
func (r *row) delay(at int) int64 {
	var waits int64
	for i := at + 1; i < len(r.stops)-1; i++ {
		waits += r.waits[i]
	}
	return min(waits, r.slack(at))
}

// slack is by how much later a stop can begin, so that none from it on breaks more than it does already.
func (r *row) slack(from int) int64 {
	least, waits := r.left(from, from), int64(0)
	for i := from + 1; i < len(r.stops); i++ {
		waits += r.waits[i]
		least = min(least, waits+r.left(i, from))
	}
	return least
}

// left is how much is left at a place up to its Late, and up to its Ride, for what begins later from a place on.
func (r *row) left(at, from int) int64 {
	left := r.stops[at].Late - r.times[at]
	t := r.drops[at]
	switch {
	case t != nil && t.pick < from: // who rides already begins no later
		left = min(left, t.most-r.ride(*t))
	case t != nil:
		left = min(left, t.most)
	}
	return max(left, 0)
}

// ride is how long a request rides, from the end of the pickup's service on.
func (r *row) ride(t trip) int64 {
	return r.times[t.drop] - r.times[t.pick] - t.service
}

// ridesTooLong tells whether a request whose drop stands behind a place rides for too long.
func (r *row) ridesTooLong(behind int) bool {
	return slices.ContainsFunc(r.trips, func(t trip) bool {
		return t.drop > behind && r.ride(t) > t.most
	})
}

// pass is the times and waits as they are now, and by how much they break what must be.
func (r *row) pass() Pass {
	last := len(r.times) - 1
	p := Pass{Times: r.times, Waits: r.waits, Length: above(r.times[last]-r.times[0], r.most)}
	for i, stop := range r.stops {
		p.Window = plus(p.Window, above(r.times[i], stop.Late))
	}
	for _, t := range r.trips {
		p.Ride = plus(p.Ride, above(r.ride(t), t.most))
	}
	return p
}

// above is by how much a number is above a bound.
func above(n, bound int64) int64 {
	return max(n-bound, 0)
}

// plus is the sum of two numbers that aren't below 0, held where it would go round: thousands of stops that all begin too late by all that comes ahead of them can be that much.
func plus(a, b int64) int64 {
	return min(a, math.MaxInt64-b) + b
}
