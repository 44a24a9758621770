package order

import (
	"cmp"
	"slices"

	"jitney/api"
	"jitney/inst"
	"jitney/load"
	"jitney/seqn"
)

// none is the place of a prefix's last stop.
const none = -1

// drive is what rows are driven by.
type drive struct {
	x     api.Instance
	car   api.Car
	opens []window // by stop
}

// window is from when to when a stop can begin.
type window struct {
	early, late int64
}

// part is a row as far as it has gone.
//
// A stop's delay is when it begins, less the car's way there, which is how long it takes to get there without a wait. From stop to stop the delay stays, or grows by a wait. So what is left to all stops to come is told by the last one's least delay, and for each ride the greatest that the stop can have at which it began.
type part struct {
	mask  uint32 // the places that were driven behind the prefix
	last  int    // the last stop's place
	stop  int    // the last stop itself
	cost  int64
	way   int64
	delay int64  // the least
	rides []ride // the lesser drops first
}

// ride is one that hasn't ended: of somebody on board, or the car's own, from depot to depot.
type ride struct {
	drop int
	most int64 // the car's way to the drop is at most that
	late int64 // the greatest delay of the stop at which it began
}

// newDrive is of what check has let through, and a prefix that layer 13 has.
func newDrive(x api.Instance, car int, pins []api.Pin, prefix []int, clock int64) drive {
	d := drive{x: x, car: x.Cars[car]}
	for _, stop := range x.Stops {
		d.opens = append(d.opens, window{max(stop.Early, clock), stop.Late})
	}
	for _, pin := range pins {
		d.opens[prefix[pin.At]] = window{pin.Time, pin.Time}
	}
	return d
}

// start is a prefix, and whether the car can take all and there are times for it.
func (d drive) start(prefix []int) (part, bool) {
	open, end := d.opens[0], len(d.x.Stops)-1
	p := part{last: none, delay: open.early, rides: []ride{d.ride(end, d.car.Max, open.late)}}
	ok := open.early <= open.late && load.First(d.car.Cap, seqn.Loads(d.x, prefix)) < 0
	for _, stop := range prefix[1:] {
		if !ok {
			break
		}
		p, ok = d.on(p, stop)
	}
	return p, ok
}

// on is a part with one stop more, and whether there are times for it.
func (d drive) on(p part, stop int) (part, bool) {
	time := inst.Travel(d.x, p.stop, stop)
	p.way += d.x.Stops[p.stop].Service + time
	p.cost += time
	p.stop = stop
	p.rides = slices.Clone(p.rides)
	open := d.opens[stop]
	late := open.late - p.way
	if i, found := find(p.rides, stop); found {
		if p.rides[i].most < p.way {
			return part{}, false
		}
		late = min(late, p.rides[i].ends()-p.way)
		p.rides = slices.Delete(p.rides, i, i+1)
	}
	p.delay = max(p.delay, open.early-p.way)
	if p.delay > late {
		return part{}, false
	}
	p.hold(late)
	if request := inst.Request(d.x, stop); request != 0 && stop == inst.Pick(d.x, request) {
		drop := inst.Drop(d.x, request)
		i, _ := find(p.rides, drop)
		p.rides = slices.Insert(p.rides, i, d.ride(drop, p.way+d.longest(request), late))
	}
	return p, true
}

// ride is one that begins. It is held by its drop's window too, so that two for which that is all that is left are as good as each other.
func (d drive) ride(drop int, most, late int64) ride {
	return ride{drop, most, min(late, d.opens[drop].late-most)}
}

// longest is how long after its pickup begins a request's drop can, at most.
func (d drive) longest(request int) int64 {
	return d.x.Stops[inst.Pick(d.x, request)].Service + d.x.Rides[request-1]
}

// hold lets no ride have begun with a greater delay than the last stop can have.
func (p part) hold(late int64) {
	for i := range p.rides {
		p.rides[i].late = min(p.rides[i].late, late)
	}
}

// begins is when the last stop begins at the earliest.
func (p part) begins() int64 {
	return p.delay + p.way
}

// ends is when the drop begins at the latest.
func (r ride) ends() int64 {
	return r.late + r.most
}

// replaces tells whether whatever can come behind another part, of the same stops with the same last one, can come behind this one too, for no greater cost.
func (p part) replaces(other part) bool {
	begins := other.begins()
	if p.cost > other.cost || p.begins() > begins {
		return false
	}
	for i, theirs := range other.rides {
		mine := p.rides[i]
		if mine.ends() < theirs.ends() || begins+mine.most-p.way < min(theirs.ends(), begins+theirs.most-other.way) {
			return false
		}
	}
	return true
}

// find is the place of the ride to a drop, or where it would be, and whether it is there.
func find(rides []ride, drop int) (int, bool) {
	return slices.BinarySearchFunc(rides, drop, func(r ride, drop int) int {
		return cmp.Compare(r.drop, drop)
	})
}
