package regret

import (
	"cmp"
	"slices"

	"jitney/api"
	"jitney/insert"
)

// alone is the regret of a request that has a place in one tour alone.
const alone = 1 << 60

// filling is tours that are being filled, in memory that may be written over.
//
// A request's best place in a tour stays as long as the tour does, so it is asked for again only of the tour into which something was put.
type filling struct {
	x     api.Instance
	clock int64
	tours []api.Tour
	open  []int // the cars whose tours are being filled
	waits []wait
}

// wait is a request that stands in no tour, and its best place in each open tour.
type wait struct {
	request int
	places  []place
}

// place is a place, if there is one, and whether there never will be one.
type place struct {
	insert.Spot
	is, never bool
}

// offer is what a request that waits has to offer: the open tour in which it costs least, how much that is, and the regret.
type offer struct {
	wait, open   int
	cost, regret int64
}

// fill puts requests into the tours of these cars, which there must be, till none has a place.
func (f *filling) fill(cars, requests []int) {
	f.open = slices.DeleteFunc(slices.Clone(cars), func(car int) bool {
		return !insert.Right(f.x, car, f.tours[car], f.clock)
	})
	if len(f.open) == 0 {
		return
	}
	f.waits = nil
	for _, request := range Left(f.x, f.tours, requests) {
		f.waits = append(f.waits, wait{request, make([]place, len(f.open))})
	}
	for i := range f.open {
		f.look(i)
	}
	for {
		o, ok := f.next()
		if !ok {
			return
		}
		f.put(o)
	}
}

// look asks for the best place of all who wait in an open tour.
func (f *filling) look(open int) {
	car := f.open[open]
	for _, w := range f.waits {
		p := &w.places[open]
		if p.never {
			continue
		}
		p.Spot, p.is = insert.Best(f.x, car, f.tours[car], f.clock, w.request)
		p.never = !p.is && f.short()
	}
}

// short tells whether no way round is shorter, as it is between spots (layer 5). Then a tour that is right with somebody is so without, so that who has no place in it has none either when it's fuller.
func (f *filling) short() bool {
	return len(f.x.Matrix) == 0
}

// next is the offer that is taken next, and whether there is one.
func (f *filling) next() (offer, bool) {
	var best offer
	found := false
	for i, w := range f.waits {
		o, ok := w.offer()
		o.wait = i
		if ok && (!found || o.ahead(best)) { // they rise, so of those alike the lesser one stays
			best, found = o, true
		}
	}
	return best, found
}

// put puts a request where it costs least.
func (f *filling) put(o offer) {
	w, car := f.waits[o.wait], f.open[o.open]
	f.tours[car] = insert.Put(f.x, f.tours[car], w.request, w.places[o.open].Spot)
	f.waits = slices.Delete(f.waits, o.wait, o.wait+1)
	f.look(o.open)
}

// offer is what a request has to offer, and whether it has a place at all.
func (w wait) offer() (offer, bool) {
	const none = -1
	best, next := none, none
	for i, p := range w.places {
		switch {
		case !p.is:
		case best == none || p.Cost < w.places[best].Cost:
			best, next = i, best
		case next == none || p.Cost < w.places[next].Cost:
			next = i
		}
	}
	if best == none {
		return offer{}, false
	}
	o := offer{open: best, cost: w.places[best].Cost, regret: alone}
	if next != none {
		o.regret = w.places[next].Cost - o.cost
	}
	return o, true
}

// ahead tells whether an offer is taken ahead of another one.
func (o offer) ahead(other offer) bool {
	return cmp.Or(cmp.Compare(other.regret, o.regret), cmp.Compare(o.cost, other.cost)) < 0
}
