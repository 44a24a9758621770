package tabu

import (
	"math"
	"math/big"
	"math/rand/v2"
	"testing"
)

// numbers are some from each end, and from the middle.
func numbers() []int {
	return []int{math.MinInt, math.MinInt + 1, -9, -5, -4, -1, 0, 1, 2, 3, 4, 5, 6, 9, math.MaxInt - 1, math.MaxInt}
}

// P20.1: at 4 it is forbidden, at 5 it isn't.
func TestUntilAStep(t *testing.T) {
	for _, request := range numbers() {
		for _, tour := range numbers() {
			for _, until := range numbers() {
				var x Table
				x.Forbid(request, tour, until)
				for _, now := range numbers() {
					if got := x.Is(request, tour, now); got != (now < until) {
						t.Fatalf("%d, %d, until %d, at %d: %v", request, tour, until, now, got)
					}
					if x.Is(request, tour-1, now) || x.Is(request+1, tour, now) || request != tour && x.Is(tour, request, now) {
						t.Fatalf("%d, %d: others are forbidden, too", request, tour)
					}
					if got := x.Count(now); got != 1 && now < until || got != 0 && now >= until {
						t.Fatalf("until %d, at %d: %d", until, now, got)
					}
				}
			}
		}
	}
}

// P20.1: the zero one forbids nothing, at no step.
func TestNothingIsForbidden(t *testing.T) {
	var x Table
	for range 2 {
		for _, now := range numbers() {
			if x.Is(0, 0, now) || x.Is(1, 0, now) || x.Is(-1, now, now) || x.Count(now) != 0 || x.Sweep(now) != 0 {
				t.Errorf("at %d something is", now)
			}
		}
	}
}

// P20.1: of one pair the greater step counts, whichever comes first, till it is let go; then the one behind it.
func TestTheGreaterStepCounts(t *testing.T) {
	for _, a := range numbers() {
		for _, b := range numbers() {
			var x Table
			x.Forbid(3, 1, a)
			x.Forbid(3, 1, b)
			for _, now := range numbers() {
				if got := x.Is(3, 1, now); got != (now < max(a, b)) {
					t.Fatalf("%d and %d, at %d: %v", a, b, now, got)
				}
			}
			if x.Sweep(max(a, b)) != 1 {
				t.Fatalf("%d and %d: not one pair", a, b)
			}
			x.Forbid(3, 1, b)
			if x.Is(3, 1, b) || b > math.MinInt && !x.Is(3, 1, b-1) {
				t.Fatalf("%d, let go, and %d", a, b)
			}
		}
	}
}

// P20.1: a pair that was forbidden before whichever step is let go as others are.
func TestWhatWasNeverForbiddenIsLetGo(t *testing.T) {
	var x Table
	x.Forbid(1, 0, math.MinInt)
	x.Forbid(2, 0, -7)
	x.Forbid(2, 0, math.MinInt)
	x.Forbid(3, 0, 0)
	if x.Is(1, 0, math.MinInt) || x.Count(math.MinInt) != 2 || x.Count(-8) != 2 || x.Count(-7) != 1 || x.Count(0) != 0 {
		t.Error("what is forbidden")
	}
	for _, c := range []struct{ now, want int }{{math.MinInt, 1}, {math.MinInt, 0}, {-8, 0}, {-7, 1}, {-7, 0}, {-1, 0}, {math.MaxInt, 1}, {math.MaxInt, 0}} {
		if got := x.Sweep(c.now); got != c.want {
			t.Errorf("at %d %d are let go, not %d", c.now, got, c.want)
		}
	}
}

// P20.1: two tables know nothing of each other.
func TestTablesAreApart(t *testing.T) {
	var a, b Table
	a.Forbid(1, 2, 9)
	if b.Is(1, 2, 0) || b.Count(0) != 0 {
		t.Error("the other one forbids it")
	}
	b.Forbid(1, 2, 5)
	b.Sweep(5)
	if !a.Is(1, 2, 8) || b.Is(1, 2, 4) {
		t.Error("the other one is swept")
	}
}

// ban is what was forbidden, and not let go.
type ban struct{ request, tour, until int }

// model is a table said directly: all bans, one behind the other.
type model []ban

func (m model) greatest(request, tour int) (int, bool) {
	until, is := math.MinInt, false
	for _, b := range m {
		if b.request == request && b.tour == tour {
			until, is = max(until, b.until), true
		}
	}
	return until, is
}

// pairs is those that are forbidden at a step, or those that aren't any more.
func (m model) pairs(now int, forbidden bool) map[[2]int]int {
	list := map[[2]int]int{}
	for _, b := range m {
		if until, _ := m.greatest(b.request, b.tour); (now < until) == forbidden {
			list[[2]int{b.request, b.tour}] = until
		}
	}
	return list
}

func (m *model) sweep(now int) int {
	gone := m.pairs(now, false)
	var rest model
	for _, b := range *m {
		if _, is := gone[[2]int{b.request, b.tour}]; !is {
			rest = append(rest, b)
		}
	}
	*m = rest
	return len(gone)
}

// P20.1, P20.2: in every order of calls; what was let go is not forbidden any more, at no step, unless it is forbidden anew.
func TestTableOfDrawnCalls(t *testing.T) {
	draws := rand.New(rand.NewPCG(1, 2))
	number := func() int {
		if draws.IntN(9) == 0 {
			return numbers()[draws.IntN(len(numbers()))]
		}
		return draws.IntN(9) - 4
	}
	swept := 0
	for range 3000 {
		var x Table
		var m model
		for range draws.IntN(40) {
			request, tour, step := draws.IntN(4)-1, draws.IntN(4)-1, number()
			switch draws.IntN(5) {
			case 0, 1:
				x.Forbid(request, tour, step)
				m = append(m, ban{request, tour, step})
			case 2:
				want, is := m.greatest(request, tour)
				if got := x.Is(request, tour, step); got != (is && step < want) {
					t.Fatalf("%v: %d, %d at %d: %v", m, request, tour, step, got)
				}
			case 3:
				if got, want := x.Count(step), len(m.pairs(step, true)); got != want {
					t.Fatalf("%v at %d: %d, not %d", m, step, got, want)
				}
			case 4:
				was := m
				want := m.sweep(step)
				if got := x.Sweep(step); got != want {
					t.Fatalf("%v at %d: %d are let go, not %d", was, step, got, want)
				}
				swept += want
			}
		}
	}
	if swept < 3000 {
		t.Errorf("hardly asked: %d were let go", swept)
	}
}

// P20.1: the first weights, by hand.
func TestWeightByHand(t *testing.T) {
	var w Weight
	if w.Value() != 1000 || w.Of(1, 0) != 1000 {
		t.Errorf("the zero one is %d", w.Value())
	}
	for _, c := range []struct {
		good bool
		want int64
	}{{true, 666}, {true, 444}, {false, 667}, {false, 1001}, {false, 1502}, {true, 1001}, {true, 667}, {true, 444}, {true, 296}, {true, 197}, {true, 131}, {true, 87}, {true, 58}, {true, 38}, {true, 25}, {true, 16}, {true, 10}, {true, 6}, {true, 4}, {true, 2}, {true, 1}, {true, 1}, {true, 1}, {false, 2}, {false, 4}, {false, 7}, {false, 11}, {true, 7}} {
		if got := w.Turn(c.good); got != c.want || w.Value() != c.want || w.Of(2, 1) != 3*c.want {
			t.Fatalf("%v: %d, %d, not %d", c.good, got, w.Value(), c.want)
		}
	}
}

// weighing is a weight of that value.
func weighing(value int64) Weight {
	return Weight{value - 1000}
}

// P20.1, P20.2: each weight there may be, turned once.
func TestWeightsTurn(t *testing.T) {
	for value := int64(1); value <= Most; value++ {
		less, more := weighing(value), weighing(value)
		if got, want := less.Turn(true), max(1, (value+value)/3); got != want || less.Value() != want {
			t.Fatalf("%d, all good: %d, not %d", value, got, want)
		}
		if got, want := more.Turn(false), min(1_000_000, value+value/2+1); got != want || more.Value() != want {
			t.Fatalf("%d, not good: %d, not %d", value, got, want)
		}
	}
}

// P20.2: the weight never leaves its bounds, however it is turned.
func TestWeightStaysWithin(t *testing.T) {
	draws := rand.New(rand.NewPCG(3, 4))
	var w Weight
	least, most := w.Value(), w.Value()
	for range 1000 {
		good := draws.IntN(2) == 0
		for range draws.IntN(60) {
			got := w.Turn(good)
			if got < 1 || got > Most || got != w.Value() {
				t.Fatalf("%d", got)
			}
			least, most = min(least, got), max(most, got)
		}
	}
	if least != 1 || most != Most || Most != 1_000_000 {
		t.Errorf("hardly asked: from %d to %d", least, most)
	}
}

// P20.1: what weighs is held, each number by itself, and nothing goes round.
func TestOf(t *testing.T) {
	const great = 1 << 20
	held := func(n int64) int64 { return min(max(n, 0), great) }
	list := []int64{math.MinInt64, math.MinInt64 + 1, -great, -2, -1, 0, 1, 2, 1000, great - 1, great, great + 1, 1 << 40, math.MaxInt64 - 1, math.MaxInt64}
	for _, value := range []int64{1, 2, 666, 1000, Most - 1, Most} {
		w := weighing(value)
		for _, left := range list {
			for _, late := range list {
				want := new(big.Int).Mul(big.NewInt(value), big.NewInt(held(left)+held(late)))
				if got := w.Of(left, late); big.NewInt(got).Cmp(want) != 0 {
					t.Errorf("%d, of %d and %d: %d, not %d", value, left, late, got, want)
				}
			}
		}
		if w.Value() != value {
			t.Errorf("%d was turned to %d", value, w.Value())
		}
	}
}
