package diff

import (
	"slices"

	"jitney/api"
)

// none is the place of no edge.
const none = -1

// reach is how far each number is from one, as far as is known, and the place of the edge by which it was last come to.
type reach struct {
	edges []api.Edge
	dist  []int64
	last  []int
}

func newReach(n int, es []api.Edge, from int) reach {
	r := reach{edges: es, dist: make([]int64, n), last: make([]int, n)}
	for i := range n {
		r.dist[i] = Far
		r.last[i] = none
	}
	r.dist[from] = 0
	return r
}

// reachAll looks through the edges of a right system till no number gets nearer, or till the last edges go round, which is a cycle below 0: one of both comes within n times.
// The cycle is looked for each time, so that none is gone round again and again, till a sum goes round an int64: while there is none, no sum is more than n edges from 0, and one time brings it no more than Most edges lower.
func reachAll(n int, es []api.Edge, from int) (reach, []int) {
	r := newReach(n, es, from)
	marks := make([]int, n)
	for back := false; r.nearer(back); back = !back {
		if at, found := r.round(marks); found {
			return r, r.trail(at, at)
		}
	}
	return r, nil
}

// nearer looks through the edges once, from their first one or back from their last one, and tells whether a number got nearer. In turns of both, edges in a row are gone along at once, whichever way they lie.
func (r reach) nearer(back bool) bool {
	found := false
	look := func(place int) {
		edge := r.edges[place]
		if r.dist[edge.From] == Far {
			return
		}
		if sum := r.dist[edge.From] + edge.W; sum < r.dist[edge.To] {
			r.dist[edge.To] = sum
			r.last[edge.To] = place
			found = true
		}
	}
	for i := range r.edges {
		if back {
			i = len(r.edges) - 1 - i
		}
		look(i)
	}
	return found
}

// round is a number to which the last edges lead back, if there is one: such a cycle is below 0, as its last edge came to bring a number nearer than all others of it held.
// Marks are written over: each number has the mark of the first one from which it was come by.
func (r reach) round(marks []int) (int, bool) {
	clear(marks)
	for i := range marks {
		at, mark := i, i+1
		for marks[at] == 0 && r.last[at] != none {
			marks[at] = mark
			at = r.edges[r.last[at]].From
		}
		if marks[at] == mark {
			return at, true
		}
	}
	return 0, false
}

// trail is the places of the last edges from one number to another one: at least one, so that of one and the same number it is a cycle.
func (r reach) trail(from, to int) []int {
	var places []int
	at := to
back:
	place := r.last[at]
	places = append(places, place)
	at = r.edges[place].From
	if at != from {
		goto back
	}
	slices.Reverse(places)
	return places
}
