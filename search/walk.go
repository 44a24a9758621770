package search

import (
	"slices"

	"jitney/api"
	"jitney/moves"
	"jitney/regret"
	"jitney/seqn"
	"jitney/tabu"
)

// none is the tour of who stands in none.
const none = -1

// These weigh how much a step finds against how long it takes: some milliseconds, where there are a hundred requests.
const (
	tries    = 8  // the most moves of a kind that a step tries
	few      = 3  // the most of those who are left for whom a step looks for a place behind each move
	least    = 5  // the fewest steps for which nobody may go back
	spread   = 10 // of how many such numbers of steps the draws choose
	patience = 25 // the steps without better tours behind which the walk begins anew
)

// walk goes from tours to tours: all are right, all who stood at first stand there, nobody but these and those who are listed does, and who is left has no place.
//
// It goes on to the best tours near by, though they be worse than those where it is, and nobody may go back for a while: so it comes away from where nothing near by is better.
type walk struct {
	x     api.Instance
	clock int64
	list  []int // who may be put in
	first []int // of each request its tour at first

	draws []int
	drawn int // how often they have chosen

	step      int
	forbidden tabu.Table
	now, best state
	free      int // how many can be moved
	left      []int
	fruitless int // the steps since there were better tours, or the walk began anew
	anew      int // how often it did since there were
}

// state is tours where a walk may be.
type state struct {
	tours []api.Tour
	worth
	where []int // of each request its tour
}

// walked is the best tours of a walk of so many steps, or fewer, if that seems to be of no use.
func walked(x api.Instance, tours []api.Tour, clock int64, requests []int, steps int64, draws []int) []api.Tour {
	w := &walk{x: x, clock: clock, first: where(x, tours), draws: draws}
	w.list = regret.Left(x, nil, requests) // each once, as a list may be far longer than there are requests
	filled, _ := regret.Fill(x, tours, clock, w.list)
	w.now = w.stateOf(filled)
	w.best = w.now
	for range steps {
		list := w.someMoves()
		// Where nobody can be moved, nobody ever will be; and a few are soon tried in all ways.
		if w.anew >= w.free {
			break
		}
		w.goOn(list)
	}
	return w.best.tours
}

func (w *walk) stateOf(tours []api.Tour) state {
	return state{tours, worthOf(w.x, tours), where(w.x, tours)}
}

// where tells of each request in which tour it stands.
func where(x api.Instance, tours []api.Tour) []int {
	list := slices.Repeat([]int{none}, len(x.Rides)+1)
	for i, t := range tours {
		for _, request := range seqn.Served(x, t.Seq) {
			list[request] = i
		}
	}
	return list
}

// goOn goes one step, by one of these moves, if that can be.
func (w *walk) goOn(list []moves.Move) {
	w.forbidden.Sweep(w.step)
	w.left = w.someLeft()
	w.fruitless++
	if s, ok := w.next(list); ok {
		w.goTo(s)
	}
	w.step++
	if w.fruitless >= patience {
		w.now = w.best
		w.fruitless = 0
		w.anew++
	}
}

// next is the best of the tours behind these moves to which the walk may go, and whether there are any.
func (w *walk) next(list []moves.Move) (state, bool) {
	var best state
	found := false
	for _, m := range list {
		for _, tours := range w.behind(m) {
			s := w.stateOf(tours)
			if w.may(s) && (!found || s.above(best.worth)) {
				best, found = s, true
			}
		}
	}
	return best, found
}

// may tells whether the walk may go to tours: wherever they are better than all so far; else not where somebody is forbidden, nor where nobody changes his tour, and nothing is won.
func (w *walk) may(s state) bool {
	if s.above(w.best.worth) {
		return true
	}
	changed := false
	for request, tour := range s.where {
		if tour == w.now.where[request] {
			continue
		}
		if w.forbidden.Is(request, tour, w.step) {
			return false
		}
		changed = true
	}
	return changed || s.above(w.now.worth)
}

// goTo goes to tours. Who leaves a tour may not go back for a while, and who is left is put in where there is a place now.
func (w *walk) goTo(s state) {
	until := w.step + least + w.draw(spread)
	for request, tour := range w.now.where {
		if tour != none && tour != s.where[request] {
			w.forbidden.Forbid(request, tour, until)
		}
	}
	var turned []int
	for car, t := range s.tours {
		if !slices.Equal(t.Seq, w.now.tours[car].Seq) {
			turned = append(turned, car)
		}
	}
	w.fill(s.tours, w.list, turned)
	w.now = w.stateOf(s.tours)
	if w.now.above(w.best.worth) {
		w.best = w.now
		w.fruitless, w.anew = 0, 0
	}
}

// draw is one of so many numbers, from 0 on. The draws choose, one after the other, and then from the first one on again, each time a little further on, so that, with few or none, not the same is chosen over and over.
func (w *walk) draw(many int) int {
	n := w.drawn % many
	if len(w.draws) > 0 {
		n += w.draws[w.drawn%len(w.draws)]%many + many
	}
	w.drawn++
	return n % many
}
