package session_test

import (
	"slices"
	"testing"

	"jitney/api"
	"jitney/deci"
	"jitney/diff"
	"jitney/insert"
	"jitney/inst"
	"jitney/order"
	"jitney/proof"
	"jitney/sched"
	"jitney/seqn"
	"jitney/session"
	"jitney/sheet"
	"jitney/spot"
	"jitney/ticket"
	"jitney/verb"
)

// read is the instance of a text that has one.
func read(t *testing.T, text string) api.Instance {
	t.Helper()
	x, _, line, e := sheet.Parse(text)
	if e != api.OK {
		t.Fatalf("%q: line %d, %d", text, line, e)
	}
	return x
}

// The whole's examples 1 and 2: a way, and a decimal.
func TestExamplesOfNumbers(t *testing.T) {
	if far := spot.Dist(0, 3+4i); far != 5 {
		t.Errorf("1: %d", far)
	}
	if n, e := deci.Read("-1.5", 2); n != -150 || e != api.OK {
		t.Errorf("2: %d, %d", n, e)
	}
}

// The whole's example 3: an instance of nobody.
func TestExampleOfAnInstance(t *testing.T) {
	const text = "jitney 0 1 0 spots\ncar 1 0 9\nstop 0 0 0 0 0 0 9\nstop 0 0 0 0 0 0 9\n"
	x, scale, line, e := sheet.Parse(text)
	want := api.Instance{Cars: []api.Car{{Cap: api.Load{Seats: 1}, Max: 9}}, Stops: []api.Stop{{Late: 9}, {Late: 9}}}
	if !inst.Same(x, want) || scale != 0 || line != 0 || e != api.OK {
		t.Errorf("3: %+v, %d, %d, %d", x, scale, line, e)
	}
	loaded(t, text, "tick 5\nsolve 8 0\nreport\ntickets\n")
}

// The whole's example 4: a cycle below 0.
func TestExampleOfACycle(t *testing.T) {
	es := []api.Edge{{From: 0, To: 1, W: 5}, {From: 1, To: 0, W: -6}}
	_, cycle, e := diff.Solve(2, es, 0)
	if sum, ok := proof.Cycle(es, cycle); len(cycle) != 2 || e != api.OK || sum != -1 || !ok {
		t.Errorf("4: %v, %d: %d, %v", cycle, e, sum, ok)
	}
}

// The whole's examples 5 and 6: times as short as can be, and a proof that there are none.
func TestExamplesOfTimes(t *testing.T) {
	x, row := read(t, oneSheet), []int{0, 1, 2, 3}
	if r, e := sched.Plan(x, 0, row, 0, nil); e != api.OK || !slices.Equal(r.Times, []int64{0, 0, 6, 12}) || r.Length != 12 {
		t.Errorf("5: %+v, %d", r, e)
	}
	x.Rides[0] = 4
	r, e := sched.Plan(x, 0, row, 0, nil)
	why := sched.Why(r)
	slices.Sort(why)
	if e != api.ErrTime || !slices.Equal(why, []string{"ride 1 2", "travel 1 2"}) {
		t.Errorf("6: %v, %d", why, e)
	}
}

// The whole's example 7: the cheapest order of two.
func TestExampleOfAnOrder(t *testing.T) {
	x := read(t, twoSheet)
	x.Stops[5].Spot = 0 // back to where it began
	row, cost, times, e := order.Best(x, 0, nil, []int{0}, []int{1, 2}, 0)
	if e != api.OK || !slices.Equal(row, []int{0, 1, 2, 3, 4, 5}) || cost != 8 || !slices.Equal(times[:5], []int64{0, 1, 2, 3, 4}) || times[5] != 8 {
		t.Errorf("7: %v, %d, %v, %d", row, cost, times, e)
	}
}

// The whole's example 8: the place in the empty row.
func TestExampleOfAPlace(t *testing.T) {
	x := read(t, oneSheet)
	places := slices.Collect(insert.All(x, 0, api.Tour{Seq: seqn.Empty(x)}, 0, 1))
	if !slices.Equal(places, []insert.Spot{{A: 1, B: 2, Cost: 10}}) {
		t.Errorf("8: %+v", places)
	}
}

// The whole's example 9: a ticket.
func TestExampleOfATicket(t *testing.T) {
	s := loaded(t, oneSheet, "add 1\nsolve 8 0\n")
	does(t, s, verb.Command{Kind: verb.Tickets}, "1 0 0 6 5\n", api.OK)
	lines, line, e := ticket.Parse("1 0 0 6 5\n")
	if !slices.Equal(lines, []ticket.Line{{ID: 1, Car: 0, Pick: 0, Drop: 6, Ride: 5, Served: true}}) || line != 0 || e != api.OK {
		t.Errorf("9: %+v, %d, %d", lines, line, e)
	}
}

// The whole's example 10: nobody books ahead of a load.
func TestExampleOfASession(t *testing.T) {
	s := session.New()
	does(t, s, verb.Command{Kind: verb.Add, N: 1}, "", api.ErrState)
	answers(t, s, "add 1\n", "error 42\n")
}
