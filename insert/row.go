package insert

import (
	"math"

	"jitney/api"
	"jitney/inst"
	"jitney/seqn"
)

// row is a right tour's row, and the request that is to be put into it. All of it is copied, so that instance and tour may be written over before the places are gone over.
//
// Layer 12 tells whether a tour is right, but it would have to be asked of each place anew. Here what the row asks is reckoned once for all places.
//
// A stop's delay is when it begins, less the car's way there, which is how long it takes to get there without a wait. From stop to stop the delay stays, or grows by a wait. What is put in makes the way to all stops behind it longer by the same, so that what these ask of the delays ahead of them stays, but for that.
type row struct {
	stops      []stop
	pick, drop stop // the request's own
	first      int  // the first place at which the pickup may be
	room       api.Load
}

// stop is one of a row, or the request's own, which has no place, way and load of its own.
type stop struct {
	service          int64
	early, late      int64 // when it can begin
	next             int64 // the time to the next stop
	toPick, toDrop   int64 // the times to the request's stops, and from them
	fromPick         int64
	fromDrop         int64
	begins, ends     *trip // the trip whose pickup, or drop, it is
	way, cost        int64 // of the car, from the start's depot on
	aboard           api.Load
	earliest, latest int64 // its least and greatest delay, as far as it and all behind it ask
}

// trip is a request's, or the car's own from depot to depot: the places of its pickup and drop, and how long after the one begins the other one can.
//
// Its earliest is, for each place from behind the pickup up to the drop, the drop's least delay, as far as the stops from that place on ask.
type trip struct {
	pick, drop int
	most       int64
	earliest   []int64
}

// newRow is the row of a right tour, and a request that isn't in it.
func newRow(x api.Instance, car int, t api.Tour, clock int64, request int) *row {
	r := &row{first: max(1, len(t.Pins))}
	pick, drop := inst.Pick(x, request), inst.Drop(x, request)
	r.pick, r.drop = newStop(x, pick, clock), newStop(x, drop, clock)
	r.pick.toDrop = inst.Travel(x, pick, drop)
	r.pick.begins = &trip{most: longest(x, request)}
	r.drop.ends = r.pick.begins
	for i, at := range t.Seq {
		s := newStop(x, at, clock)
		if i < len(t.Pins) {
			s.early, s.late = t.Pins[i].Time, t.Pins[i].Time
		}
		s.toPick, s.toDrop = inst.Travel(x, at, pick), inst.Travel(x, at, drop)
		s.fromPick, s.fromDrop = inst.Travel(x, pick, at), inst.Travel(x, drop, at)
		r.stops = append(r.stops, s)
	}
	r.measure(x, t.Seq)
	r.fill(x, t.Seq, left(x.Cars[car].Cap, x.Stops[pick].Load))
	r.addTrips(x, t.Seq, x.Cars[car].Max)
	r.lookBack()
	return r
}

func newStop(x api.Instance, at int, clock int64) stop {
	s := x.Stops[at]
	return stop{service: s.Service, early: max(s.Early, clock), late: s.Late}
}

// longest is how long after its pickup begins a request's drop can.
func longest(x api.Instance, request int) int64 {
	return x.Stops[inst.Pick(x, request)].Service + x.Rides[request-1]
}

func left(room, l api.Load) api.Load {
	return api.Load{Seats: room.Seats - l.Seats, Wheels: room.Wheels - l.Wheels}
}

// measure tells the times between the stops, and the ways to them.
func (r *row) measure(x api.Instance, seq []int) {
	for i := 1; i < len(seq); i++ {
		ahead, s := &r.stops[i-1], &r.stops[i]
		ahead.next = inst.Travel(x, seq[i-1], seq[i])
		s.way = ahead.way + ahead.service + ahead.next
		s.cost = ahead.cost + ahead.next
	}
}

// fill tells who is on board behind each stop, and how many may be, so that there is room for the request.
func (r *row) fill(x api.Instance, seq []int, room api.Load) {
	r.room = room
	var sum api.Load
	for i, l := range seqn.Loads(x, seq) {
		sum.Seats += l.Seats
		sum.Wheels += l.Wheels
		r.stops[i].aboard = sum
	}
}

// addTrips tells the trips, of which the car's may take so long.
func (r *row) addTrips(x api.Instance, seq []int, most int64) {
	begin := func(pick, drop int, most int64) {
		t := &trip{pick: pick, drop: drop, most: most}
		r.stops[pick].begins, r.stops[drop].ends = t, t
	}
	begin(0, len(seq)-1, most)
	for _, request := range seqn.Served(x, seq) {
		pick, drop := seqn.Pair(x, seq, request)
		begin(pick, drop, longest(x, request))
	}
}

// lookBack tells each stop's earliest and latest, and each trip's earliest.
func (r *row) lookBack() {
	latest := int64(math.MaxInt64)
	for i := len(r.stops) - 1; i >= 0; i-- {
		s := &r.stops[i]
		latest = min(latest, s.late-s.way)
		s.latest = latest
		s.earliest = s.early - s.way
		if t := s.begins; t != nil {
			spare := s.way + t.most - r.stops[t.drop].way
			s.earliest = max(s.earliest, r.drops(t)-spare) // who is dropped late isn't picked up early
		}
	}
}

// drops fills a trip's earliest, of which the stops behind the pickup must be known, and tells the first.
func (r *row) drops(t *trip) int64 {
	t.earliest = make([]int64, t.drop-t.pick)
	earliest := int64(math.MinInt64)
	for at := t.drop; at > t.pick; at-- {
		earliest = max(earliest, r.stops[at].earliest)
		t.earliest[at-t.pick-1] = earliest
	}
	return earliest
}

// fits tells whether there is room for the request on board behind a stop.
func (r *row) fits(s *stop) bool {
	return s.aboard.Seats <= r.room.Seats && s.aboard.Wheels <= r.room.Wheels
}
