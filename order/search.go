package order

import (
	"math"
	"slices"

	"jitney/todo"
)

// search is what is known, and the cheapest order that was found.
type search struct {
	rest
	seen  map[reached][]part
	order []int
	cost  int64
}

// reached is which places were driven, and which one last.
type reached struct {
	mask uint32
	last int
}

// branch is a part, and those of one stop more to which the search is still to go.
type branch struct {
	part
	next []part
}

// cheapest is the order that costs least, of as cheap ones the one whose row comes first, and whether there is one.
func cheapest(d drive, t todo.Todo) ([]int, bool) {
	start, ok := d.start(t.Prefix)
	if !ok {
		return nil, false
	}
	s := search{rest: newRest(d, t, start.rides), seen: map[reached][]part{}, cost: math.MaxInt64}
	s.run(start)
	return s.order, s.cost < math.MaxInt64
}

// run goes through the orders behind a start, the lesser rows first, but for those that can't be, or can't be cheaper than what was found.
func (s *search) run(start part) {
	var path []branch
	var top *branch
	at := start
down:
	path = append(path, branch{at, s.onward(at)})
	if at.mask == s.Full() {
		s.take(path)
	}
across:
	top = &path[len(path)-1]
	if len(top.next) == 0 {
		goto up
	}
	at, top.next = top.next[0], top.next[1:]
	if s.may(at) && s.isNew(at) {
		goto down
	}
	goto across
up:
	path = path[:len(path)-1]
	if len(path) > 0 {
		goto across
	}
}

// onward is the parts with one stop more for which there are times, the lesser rows first.
func (s *search) onward(p part) []part {
	var parts []part
	for place := range s.Ready(p.mask) {
		next, ok := s.on(p, s.Stops[place])
		if !ok {
			continue
		}
		next.mask |= 1 << place
		next.last = place
		next.hold(s.latest[s.at(next.mask, place)] - next.way)
		parts = append(parts, next)
	}
	return parts
}

// take keeps the order of a path, if there are times for it to the end's depot, and it is cheaper.
func (s *search) take(path []branch) {
	whole, ok := s.on(path[len(path)-1].part, s.End)
	if !ok || whole.cost >= s.cost {
		return
	}
	s.cost = whole.cost
	s.order = nil
	for _, b := range path[1:] {
		s.order = append(s.order, b.last)
	}
}

// may tells whether, by what is known of the rest, a part may be that of an order that can be and is cheaper.
func (s *search) may(p part) bool {
	cost := p.cost + s.costs.At(p.mask, p.last)
	if cost >= s.cost || p.begins() > s.latest[s.at(p.mask, p.last)] {
		return false
	}
	return !slices.ContainsFunc(p.rides, func(r ride) bool {
		way := p.way + s.ways[p.last][s.places[r.drop]]
		if r.drop == s.End { // ahead of which the car goes by all the rest
			way = cost + s.services
		}
		return way > r.most || max(p.delay+way, s.opens[r.drop].early) > r.ends()
	})
}

// isNew keeps a part, unless one that was kept replaces it: as that one's rows come first, of as cheap ones one of them is to be told.
func (s *search) isNew(p part) bool {
	at := reached{p.mask, p.last}
	if slices.ContainsFunc(s.seen[at], func(kept part) bool { return kept.replaces(p) }) {
		return false
	}
	s.seen[at] = append(slices.DeleteFunc(s.seen[at], p.replaces), p)
	return true
}
