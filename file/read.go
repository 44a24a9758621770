package file

import (
	"jitney/api"
	"jitney/deci"
	"jitney/plan"
)

// fault is why a reader gave up, and at which line: 0 of the whole text.
type fault struct {
	line int
	err  api.Errno
}

// reader goes through a text line by line, and gives up, by a panic with a fault, at the first thing that isn't as said.
type reader struct {
	lines []string
	line  int      // the number of the line that is read
	words []string // what stands there behind the line's name
}

// read is the plan of a text, or the fault at which its reader gave up.
func read(text string) (p plan.Plan, gave fault) {
	defer func() {
		if cause := recover(); cause != nil {
			// Anything but a fault is a mistake of the program: the assertion panics anew, so that it doesn't pass for an answer.
			p, gave = plan.Plan{}, cause.(fault)
		}
	}()
	var r reader
	r.open(text)
	return r.plan(), fault{}
}

// giveUp ends the reading, with the line at which it stands.
func (r *reader) giveUp(e api.Errno) {
	panic(fault{r.line, e})
}

func (r *reader) must(e api.Errno) {
	if e != api.OK {
		r.giveUp(e)
	}
}

func (r *reader) open(text string) {
	lines, e := deci.Lines(text)
	r.must(e)
	r.lines = lines
}

func (r *reader) plan() plan.Plan {
	rows, cost := r.head()
	p := plan.Plan{Cost: cost}
	for range rows {
		route := r.route()
		p.Routes = append(p.Routes, route)
		p.Times = append(p.Times, r.times(len(route)))
	}
	r.list(leftName)
	p.Left = numbers(r, deci.Whole)
	r.end()
	return p
}

func (r *reader) head() (rows int, cost int64) {
	r.next(headName)
	if len(r.words) != 2 {
		r.giveUp(api.ErrForm)
	}
	rows, e := deci.Whole(r.words[0])
	r.must(e)
	cost, e = time(r.words[1])
	r.must(e)
	if rows > api.MaxCars {
		r.giveUp(api.ErrMany)
	}
	return rows, cost
}

func (r *reader) route() []int {
	r.list(routeName)
	if len(r.words) == 0 {
		r.giveUp(api.ErrForm)
	}
	return numbers(r, deci.Whole)
}

// times is the times of a row of so many stops, or none.
func (r *reader) times(stops int) []int64 {
	r.list(timesName)
	if many := len(r.words); many != 0 && many != stops {
		r.giveUp(api.ErrArg)
	}
	return numbers(r, time)
}

// end is behind the last line, where none may stand any more.
func (r *reader) end() {
	if r.line < len(r.lines) {
		r.line++
		r.giveUp(api.ErrMore)
	}
}

// list goes to the next line, of so many words as there are stops at most.
func (r *reader) list(name string) {
	r.next(name)
	if len(r.words) > api.MaxStops {
		r.giveUp(api.ErrMany)
	}
}

// next goes to the next line, which has a name.
func (r *reader) next(name string) {
	r.line++
	if r.line > len(r.lines) {
		r.giveUp(api.ErrShort)
	}
	words, e := deci.Words(r.lines[r.line-1])
	r.must(e)
	if len(words) == 0 || words[0] != name {
		r.giveUp(api.ErrForm)
	}
	r.words = words[1:]
}

// numbers is the numbers of a line, of either kind: what is read of each of its words.
func numbers[N number](r *reader, read func(word string) (N, api.Errno)) []N {
	ns := make([]N, len(r.words))
	for i, word := range r.words {
		n, e := read(word)
		r.must(e)
		ns[i] = n
	}
	return ns
}

// time is the number of a decimal that isn't below 0.
func time(word string) (int64, api.Errno) {
	n, e := deci.Read(word, 0)
	if n < 0 {
		return 0, api.ErrRange
	}
	return n, e
}
