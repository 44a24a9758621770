package order

import (
	"slices"

	"jitney/api"
	"jitney/bound"
	"jitney/inst"
	"jitney/load"
	"jitney/seqn"
	"jitney/todo"
)

// never is a time ahead of all times.
const never = -1

// rest is what is known of what is still to be driven, in whichever order that is.
type rest struct {
	drive
	todo.Todo
	costs    *bound.Table
	services int64 // of the prefix's stops, and of these
	places   []int // by stop: its place, the end's depot's behind all
	aboard   api.Load
	loads    []api.Load // by place
	legs     [][]int64  // from place to place, and to the end's depot: how long after one begins the other can
	ways     [][]int64  // the same, by whichever others that is least
	latest   []int64    // by mask and last place: when that one begins at the latest, for all others to be in time
}

// newRest is what is known behind a prefix, and those whose rides haven't ended there. It narrows the windows.
func newRest(d drive, t todo.Todo, rides []ride) rest {
	r := rest{drive: d, Todo: t, costs: bound.New(d.x, t), places: make([]int, len(d.x.Stops)), loads: seqn.Loads(d.x, t.Stops)}
	for place, stop := range r.targets() {
		r.places[stop] = place
	}
	for _, stop := range slices.Concat(t.Prefix, t.Stops) {
		r.services += d.x.Stops[stop].Service
	}
	for _, l := range seqn.Loads(d.x, t.Prefix) {
		r.aboard, _ = load.Add(r.aboard, l)
	}
	r.measure()
	r.narrow(rides)
	r.fill()
	return r
}

// targets is the stops by place, and the end's depot behind them.
func (r *rest) targets() []int {
	return append(slices.Clone(r.Stops), r.End)
}

// measure tells legs and ways.
func (r *rest) measure() {
	for _, from := range r.Stops {
		var legs []int64
		for _, to := range r.targets() {
			legs = append(legs, r.x.Stops[from].Service+inst.Travel(r.x, from, to))
		}
		r.legs = append(r.legs, legs)
		r.ways = append(r.ways, slices.Clone(legs))
	}
	for by, onward := range r.ways {
		for _, ways := range r.ways {
			for to, way := range onward {
				ways[to] = min(ways[to], ways[by]+way)
			}
		}
	}
}

// narrow takes from the windows the times at which a pickup is too early for its drop, a drop too late for its pickup, or the end ahead of what must come first.
func (r *rest) narrow(rides []ride) {
	for _, ride := range rides {
		open := &r.opens[ride.drop]
		open.late = min(open.late, ride.ends())
	}
	end := &r.opens[r.End]
	for place, first := range r.After {
		open := &r.opens[r.Stops[place]]
		end.early = max(end.early, open.early+r.ways[place][len(r.Stops)])
		if first < 0 {
			continue
		}
		pick, most := &r.opens[r.Stops[first]], r.longest(inst.Request(r.x, r.Stops[place]))
		if r.ways[first][place] > most {
			pick.late = never
		}
		pick.early = max(pick.early, open.early-most)
		open.late = min(open.late, pick.late+most)
	}
}

// fill tells latest.
func (r *rest) fill() {
	places := len(r.Stops)
	r.latest = slices.Repeat([]int64{never}, places<<places)
	// A stop more makes a greater mask, so the greater ones are filled first.
	for mask := r.Full(); mask > 0; mask-- {
		if !r.fits(mask) {
			continue
		}
		for last := range places {
			if mask>>last&1 == 1 {
				r.latest[r.at(mask, last)] = r.late(mask, last)
			}
		}
	}
}

// at is where latest has a mask and a last place.
func (r *rest) at(mask uint32, last int) int {
	return int(mask)*len(r.Stops) + last
}

// late tells one of latest by those of greater masks.
func (r *rest) late(mask uint32, last int) int64 {
	late := int64(never)
	if mask == r.Full() {
		late = r.opens[r.End].late - r.legs[last][len(r.Stops)]
	}
	for next := range r.Ready(mask) {
		late = max(late, r.latest[r.at(mask|1<<next, next)]-r.legs[last][next])
	}
	open := r.opens[r.Stops[last]]
	if late = min(late, open.late); late < open.early {
		return never
	}
	return late
}

// fits tells whether a mask has each drop's pickup, and the car can take who is on board behind it.
func (r *rest) fits(mask uint32) bool {
	on := r.aboard
	for place, first := range r.After {
		if mask>>place&1 == 0 {
			continue
		}
		if first >= 0 && mask>>first&1 == 0 {
			return false
		}
		on, _ = load.Add(on, r.loads[place])
	}
	return load.Fits(r.car.Cap, on)
}
