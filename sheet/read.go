package sheet

import (
	"jitney/api"
	"jitney/deci"
	"jitney/inst"
	"jitney/spot"
)

// fault is why a reader gave up, and at which line: 0 of the whole text.
type fault struct {
	line int
	err  api.Errno
}

// reader goes through a text word by word, and gives up, by a panic with a fault, at the first thing that isn't as said.
type reader struct {
	lines []string
	line  int      // the number of the line that is read
	words []string // what is left of it
	scale int
}

// head is what a text's first line says of the others.
type head struct {
	cars, requests int
	times          bool
}

// read is the instance and the scale of a text, or the fault at which its reader gave up.
func read(text string) (x api.Instance, scale int, gave fault) {
	defer func() {
		if cause := recover(); cause != nil {
			// Anything but a fault is a mistake of the program: the assertion panics anew, so that it doesn't pass for an answer.
			x, scale, gave = api.Instance{}, 0, cause.(fault)
		}
	}()
	var r reader
	r.open(text)
	x = r.instance()
	return x, r.scale, fault{}
}

// giveUp ends the reading, with the line at which it stands.
func (r *reader) giveUp(e api.Errno) {
	panic(fault{r.line, e})
}

func (r *reader) must(e api.Errno) {
	if e != api.OK {
		r.giveUp(e)
	}
}

func (r *reader) open(text string) {
	lines, e := deci.Lines(text)
	r.must(e)
	if len(lines) == 0 {
		r.giveUp(api.ErrShort)
	}
	r.lines = lines
}

func (r *reader) instance() api.Instance {
	h := r.head()
	stops := stopsOf(h.requests)
	var x api.Instance
	for range h.cars {
		x.Cars = append(x.Cars, r.car())
	}
	for range stops {
		x.Stops = append(x.Stops, r.stop(!h.times))
	}
	for range h.requests {
		x.Rides = append(x.Rides, r.ride())
	}
	if h.times {
		for range stops {
			x.Matrix = append(x.Matrix, r.row(stops))
		}
	}
	r.end()
	r.must(inst.Check(x))
	return x
}

func stopsOf(requests int) int {
	return 2*requests + 2
}

func (r *reader) head() head {
	r.next("jitney", 4)
	r.scale = r.whole()
	if r.scale > maxScale {
		r.giveUp(api.ErrRange)
	}
	h := head{cars: r.whole(), requests: r.whole()}
	switch r.word() {
	case ofSpots:
	case ofTimes:
		h.times = true
	default:
		r.giveUp(api.ErrForm)
	}
	switch {
	case h.cars == 0:
		r.giveUp(api.ErrArg)
	case h.cars > api.MaxCars || stopsOf(h.requests) > api.MaxStops:
		r.giveUp(api.ErrMany)
	}
	return h
}

func (r *reader) car() api.Car {
	r.next("car", 3)
	return api.Car{Cap: r.load(), Max: r.decimal(r.scale)}
}

func (r *reader) stop(placed bool) api.Stop {
	var stop api.Stop
	if placed {
		r.next("stop", 7)
		stop.Spot = r.spot()
	} else {
		r.next("stop", 5)
	}
	stop.Load = r.load()
	stop.Service = r.decimal(r.scale)
	stop.Early = r.decimal(r.scale)
	stop.Late = r.decimal(r.scale)
	return stop
}

func (r *reader) ride() int64 {
	r.next("ride", 1)
	return r.decimal(r.scale)
}

func (r *reader) row(stops int) []int64 {
	r.next("row", stops)
	times := make([]int64, stops)
	for i := range times {
		times[i] = r.decimal(r.scale)
	}
	return times
}

// end is behind the last line, where none may stand any more, and faults are the whole text's.
func (r *reader) end() {
	if r.line < len(r.lines) {
		r.line++
		r.giveUp(api.ErrMore)
	}
	r.line = 0
}

// next goes to the next line, which has a name, and so many words behind it.
func (r *reader) next(name string, count int) {
	r.line++
	if r.line > len(r.lines) {
		r.giveUp(api.ErrShort)
	}
	words, e := deci.Words(r.lines[r.line-1])
	r.must(e)
	if len(words) != count+1 || words[0] != name {
		r.giveUp(api.ErrForm)
	}
	r.words = words[1:]
}

func (r *reader) word() string {
	word := r.words[0]
	r.words = r.words[1:]
	return word
}

func (r *reader) whole() int {
	n, e := deci.Whole(r.word())
	r.must(e)
	return n
}

func (r *reader) decimal(scale int) int64 {
	n, e := deci.Read(r.word(), scale)
	r.must(e)
	return n
}

// within is a decimal of scale 0 that isn't farther from 0 than that.
func (r *reader) within(most int64) int {
	n := r.decimal(0)
	if n < -most || n > most {
		r.giveUp(api.ErrRange)
	}
	return int(n)
}

func (r *reader) spot() complex128 {
	x := r.within(api.MaxCoord)
	y := r.within(api.MaxCoord)
	c, _ := spot.At(x, y)
	return c
}

func (r *reader) load() api.Load {
	seats := r.within(api.MaxSeats)
	wheels := r.within(api.MaxSeats)
	return api.Load{Seats: seats, Wheels: wheels}
}
