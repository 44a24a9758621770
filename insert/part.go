package insert

import "slices"

// part is a row as far as it has gone, with as many of the request's stops as were put in.
//
// All that is to come can ask of it is told by the last stop's least delay, and, for each ride, the greatest delay that the stop can have at which it began: as great as the last stop's, or that, if it is less.
type part struct {
	last      *stop
	way, cost int64
	delay     int64
	rides     []ride // those that haven't ended
}

// ride is a trip that has begun.
type ride struct {
	*trip
	late  int64 // the pickup's greatest delay
	until int64 // how long the way to the drop is at most
}

// copy makes a part the same as another one, in memory of its own.
func (p *part) copy(other *part) {
	rides := append(p.rides[:0], other.rides...)
	*p = *other
	p.rides = rides
}

// on goes on to a stop, and tells whether there are times up to there.
func (p *part) on(s *stop, time int64) bool {
	p.way += p.last.service + time
	p.cost += time
	p.last = s
	late := s.late - p.way
	if s.ends != nil {
		i := slices.IndexFunc(p.rides, func(r ride) bool { return r.trip == s.ends })
		spare := p.rides[i].until - p.way
		if spare < 0 {
			return false
		}
		late = min(late, p.rides[i].late+spare)
		p.rides = slices.Delete(p.rides, i, i+1)
	}
	p.delay = max(p.delay, s.early-p.way)
	if p.delay > late {
		return false
	}
	for i := range p.rides {
		p.rides[i].late = min(p.rides[i].late, late)
	}
	if s.begins != nil {
		p.rides = append(p.rides, ride{s.begins, late, p.way + s.begins.most})
	}
	return true
}

// joins tells whether there are times for a part, and the row's stops from a place on behind it, which by themselves have some.
func (p *part) joins(r *row, from int, time int64) bool {
	s := &r.stops[from]
	more := p.way + p.last.service + time - s.way
	low, high := p.delay, s.latest-more // the delay at that place
	for _, ride := range p.rides {
		spare := ride.until - r.stops[ride.drop].way - more
		drop := ride.earliest[from-ride.pick-1] - more
		if spare < 0 || drop > ride.late+spare {
			return false
		}
		low, high = max(low, drop-spare), min(high, ride.late+spare)
	}
	return low <= high
}

// places goes through the places at which the request can be put, the lesser ones first, as long as more is asked for.
func (r *row) places(yield func(Spot) bool) {
	ahead := part{last: &stop{}}
	for a := 1; a < len(r.stops); a++ {
		// There are times for a right tour, but an idle one may begin too late to be driven.
		if !ahead.on(&r.stops[a-1], ahead.last.next) {
			return
		}
		if a >= r.first && !r.behind(&ahead, a, yield) {
			return
		}
	}
}

// behind goes through those at which the pickup is at place a, behind the part ahead of it, and tells whether more is asked for.
func (r *row) behind(ahead *part, a int, yield func(Spot) bool) bool {
	var picked, dropped part
	picked.copy(ahead)
	pick := r.pick
	pick.next = r.stops[a].fromPick
	if !r.fits(ahead.last) || !picked.on(&pick, ahead.last.toPick) {
		return true
	}
	for b := a + 1; b <= len(r.stops); b++ {
		next := &r.stops[b-1]
		dropped.copy(&picked)
		if dropped.on(&r.drop, picked.last.toDrop) && dropped.joins(r, b-1, next.fromDrop) {
			cost := dropped.cost + next.fromDrop - next.cost
			if !yield(Spot{a, b, cost}) {
				return false
			}
		}
		if !picked.on(next, picked.last.next) || !r.fits(next) {
			break
		}
	}
	return true
}
