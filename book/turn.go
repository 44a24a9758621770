package book

import (
	"slices"

	"jitney/api"
	"jitney/insert"
	"jitney/inst"
	"jitney/plan"
	"jitney/regret"
)

// Add books a request.
func (b *Book) Add(request int) api.Errno {
	switch {
	case inst.Pick(b.x, request) == 0:
		return api.ErrNone
	case b.hasBooked(request):
		return api.ErrTwice
	}
	b.booked[request] = struct{}{}
	return api.OK
}

// Cancel lets a request not have booked any more, and takes it out of its tour.
func (b *Book) Cancel(request int) api.Errno {
	if !b.hasBooked(request) {
		return api.ErrNone
	}
	if car, stands := b.where(request); stands {
		if e := b.take(car, request); e != api.OK {
			return e
		}
	}
	delete(b.booked, request)
	return api.OK
}

// Tick sets the clock, and freezes what has begun.
func (b *Book) Tick(clock int64) api.Errno {
	switch {
	case clock < 0 || clock > api.MaxTime:
		return api.ErrRange
	case clock < b.clock:
		return api.ErrClock
	}
	b.clock = clock
	for car, times := range b.times {
		b.tours[car].Pins = begun(times, clock)
	}
	return api.OK
}

// Commit lets tours be those that are planned.
func (b *Book) Commit(tours []api.Tour) api.Errno {
	// What may be wrong with tours is what may be wrong with those of a plan, in the same order.
	p, e := plan.Make(b.x, tours, b.clock, nil)
	if e != api.OK {
		return e
	}
	served := plan.Served(b.x, p)
	switch {
	case !slices.EqualFunc(b.tours, tours, keeps) || !b.allBooked(served):
		return api.ErrNone
	case b.worse(len(served), p.Cost):
		return api.ErrSmall
	}
	for car, row := range p.Routes {
		b.tours[car].Seq = row // its pins are those that there are
	}
	b.times = p.Times
	return api.OK
}

// take takes a request out of the tour in which it stands.
func (b *Book) take(car, request int) api.Errno {
	t, ok := insert.Take(b.x, b.tours[car], request)
	if !ok {
		return api.ErrLate
	}
	times, ok := b.timesOf(car, t)
	if !ok {
		return api.ErrTime
	}
	b.tours[car], b.times[car] = t, times
	return api.OK
}

// timesOf is the times of a car's tour at the clock, none of an idle one, and whether it is right.
func (b *Book) timesOf(car int, t api.Tour) ([]int64, bool) {
	alone := b.x // the other tours' times stay as they are, so they aren't asked
	alone.Cars = b.x.Cars[car : car+1]
	p, e := plan.Make(alone, []api.Tour{t}, b.clock, nil)
	if e != api.OK {
		return nil, false
	}
	return p.Times[0], true
}

// begun is a pin for each stop whose time is the clock or less. No stop has an earlier time than the one ahead of it, so these are the first ones.
func begun(times []int64, clock int64) []api.Pin {
	var pins []api.Pin
	for at, time := range times {
		if time > clock {
			break
		}
		pins = append(pins, api.Pin{At: at, Time: time})
	}
	return pins
}

// keeps tells whether a right tour, which has no more pins than stops, keeps what is frozen of one that there is.
func keeps(old, t api.Tour) bool {
	frozen := len(old.Pins)
	return slices.Equal(old.Pins, t.Pins) && slices.Equal(old.Seq[:frozen], t.Seq[:frozen])
}

func (b *Book) allBooked(requests []int) bool {
	return !slices.ContainsFunc(requests, func(request int) bool { return !b.hasBooked(request) })
}

// worse tells whether tours that serve so many, and cost so much, are worse than those that there are.
func (b *Book) worse(served int, cost int64) bool {
	is := len(plan.Served(b.x, b.Plan()))
	return served < is || served == is && cost > regret.Cost(b.x, b.tours)
}
