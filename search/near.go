package search

import (
	"slices"

	"jitney/api"
	"jitney/insert"
	"jitney/moves"
	"jitney/num"
	"jitney/regret"
)

// The kinds of moves: a request goes to another tour, or to another place of its own, or two change their tours.
const (
	going = iota
	staying
	changing
	kinds
)

func kindOf(m moves.Move) int {
	switch {
	case m.Other != 0:
		return changing
	case m.From == m.To:
		return staying
	}
	return going
}

// someMoves is the moves that a step tries: all of a kind, if they are few, else some that lie evenly among them, from where the draws choose.
func (w *walk) someMoves() []moves.Move {
	var many, apart, ahead [kinds]int
	for m := range moves.All(w.x, w.now.tours) {
		many[kindOf(m)]++
	}
	w.free = many[staying]
	for kind := range kinds {
		apart[kind] = max(1, int(num.Ceil(int64(many[kind]), tries)))
		ahead[kind] = w.draw(apart[kind])
	}
	var list []moves.Move
	for m := range moves.All(w.x, w.now.tours) {
		kind := kindOf(m)
		if ahead[kind] == 0 {
			list = append(list, m)
			ahead[kind] = apart[kind]
		}
		ahead[kind]--
	}
	return list
}

// someLeft is those of who is left that a step tries: all, if they are few, else some that the draws choose.
func (w *walk) someLeft() []int {
	left := regret.Left(w.x, w.now.tours, w.list)
	if len(left) <= few {
		return left
	}
	from := w.draw(len(left))
	return slices.Concat(left, left)[from : from+few]
}

// behind is the tours to which a move leads.
func (w *walk) behind(m moves.Move) [][]api.Tour {
	var list [][]api.Tour
	if tours, ok := moves.Do(w.x, w.now.tours, w.clock, m); ok {
		w.fill(tours, w.left, emptied(m))
		list = append(list, tours)
	}
	if kindOf(m) != staying {
		return list
	}
	if tours, ok := w.giveWay(m.Request, m.From); ok {
		list = append(list, tours)
	}
	return list
}

// emptied is the tours that somebody leaves. One to which somebody only goes isn't asked for those who are left: as a rule there is less room than there was.
func emptied(m moves.Move) []int {
	if m.Other != 0 {
		return []int{m.From, m.To}
	}
	return []int{m.From}
}

// giveWay is the tours in which some who are left stand instead of a request, and that one wherever it has a place then, and whether that can be.
func (w *walk) giveWay(request, car int) ([]api.Tour, bool) {
	tours := slices.Clone(w.now.tours)
	tours[car], _ = insert.Take(w.x, tours[car], request)
	w.fill(tours, w.left, []int{car})
	if len(regret.Left(w.x, tours, w.left)) == len(w.left) {
		return nil, false
	}
	tours, out := regret.Fill(w.x, tours, w.clock, []int{request})
	return tours, len(out) == 0 || w.first[request] == none
}

// fill fills the tours of some cars with those of a list who are left. The other tours needn't be asked: they are as they were, when nobody who was left had a place there.
func (w *walk) fill(tours []api.Tour, list []int, cars []int) {
	left := regret.Left(w.x, tours, list)
	if len(left) == 0 || len(cars) == 0 {
		return
	}
	x := w.x
	x.Cars = nil
	var some []api.Tour
	for _, car := range cars {
		x.Cars = append(x.Cars, w.x.Cars[car])
		some = append(some, tours[car])
	}
	some, _ = regret.Fill(x, some, w.clock, left)
	for i, car := range cars {
		tours[car] = some[i]
	}
}
