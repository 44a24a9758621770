package moves

import (
	"iter"
	"maps"
	"slices"

	"jitney/api"
	"jitney/inst"
)

// free is the free requests of tours, rising, and where each of them stands.
type free struct {
	requests []int
	stands   map[int]stand
}

// stand is the first tour in which a request's pickup stands, and how.
type stand struct {
	tour            int
	frozen, dropped bool
}

// findFree keeps nothing of the tours, so that these may be written over before the moves are gone over.
func findFree(x api.Instance, tours []api.Tour) free {
	stands := map[int]stand{}
	for i, t := range tours {
		addPicks(stands, x, i, t)
		addDrops(stands, x, i, t)
	}
	maps.DeleteFunc(stands, func(request int, s stand) bool { return s.frozen || !s.dropped })
	return free{slices.Sorted(maps.Keys(stands)), stands}
}

// addPicks adds those whose pickups stand in no tour ahead of this one.
func addPicks(stands map[int]stand, x api.Instance, tour int, t api.Tour) {
	for place, stop := range t.Seq {
		request := inst.Request(x, stop)
		if request == 0 || stop != inst.Pick(x, request) {
			continue
		}
		if _, met := stands[request]; !met {
			stands[request] = stand{tour: tour, frozen: place < len(t.Pins)}
		}
	}
}

// addDrops tells of those whose pickups stand first in this tour that their drops do too.
func addDrops(stands map[int]stand, x api.Instance, tour int, t api.Tour) {
	for _, stop := range t.Seq {
		request := inst.Request(x, stop)
		if request == 0 || stop != inst.Drop(x, request) {
			continue
		}
		if s, met := stands[request]; met && s.tour == tour {
			s.dropped = true
			stands[request] = s
		}
	}
}

// goings is each free request to each of so many tours.
func (f free) goings(tours int) iter.Seq[Move] {
	return func(yield func(Move) bool) {
		for _, request := range f.requests {
			for to := range tours {
				if !yield(Move{Request: request, From: f.stands[request].tour, To: to}) {
					return
				}
			}
		}
	}
}

// changes is each pair of free requests of two tours. Those of one tour that follow one another are passed over together: there may be many.
func (f free) changes() iter.Seq[Move] {
	return func(yield func(Move) bool) {
		behind := f.behind()
		for i, request := range f.requests {
			from := f.stands[request].tour
			for j := behind[i]; j < len(f.requests); {
				other := f.requests[j]
				to := f.stands[other].tour
				if to == from {
					j = behind[j]
					continue
				}
				if !yield(Move{request, from, to, other}) {
					return
				}
				j++
			}
		}
	}
}

// behind tells of each free request the place of the first one behind it that stands in another tour.
func (f free) behind() []int {
	places := make([]int, len(f.requests))
	for i := len(places) - 1; i >= 0; i-- {
		next := i + 1
		if next < len(places) && f.stands[f.requests[i]].tour == f.stands[f.requests[next]].tour {
			next = places[next]
		}
		places[i] = next
	}
	return places
}
