package load

import (
	"math"
	"math/big"
	"math/rand/v2"
	"slices"
	"testing"

	"jitney/api"
)

func of(seats, wheels int) api.Load {
	return api.Load{Seats: seats, Wheels: wheels}
}

// corners are parts round every bound that the chapter names, and round those of the machine.
func corners() []int {
	return []int{
		math.MinInt, math.MinInt + 1, -1 << 62, -1 << 31, -Most - 1, -Most, -Most + 1, -api.MaxSeats - 1, -api.MaxSeats, -2, -1,
		0, 1, 2, api.MaxSeats - 1, api.MaxSeats, api.MaxSeats + 1, Most - 1, Most, Most + 1, 1 << 31, 1 << 62, math.MaxInt - 1, math.MaxInt,
	}
}

// loads is those with a corner in one part and a few numbers in the other one, so that each part is asked alone.
func loads() []api.Load {
	var list []api.Load
	for _, n := range corners() {
		for _, other := range []int{0, 1, -1, api.MaxSeats, Most, -Most, Most + 1} {
			list = append(list, of(n, other), of(other, n))
		}
	}
	return list
}

func mayBe(l api.Load) bool {
	return l.Seats >= -1<<30 && l.Seats <= 1<<30 && l.Wheels >= -1<<30 && l.Wheels <= 1<<30
}

// exact is a sum, and whether it may be, in numbers of any size.
func exact(a, b int) (int, bool) {
	sum := new(big.Int).Add(big.NewInt(int64(a)), big.NewInt(int64(b)))
	return int(sum.Int64()), sum.CmpAbs(big.NewInt(1<<30)) <= 0
}

func wantedSum(a, b api.Load) (api.Load, bool) {
	seats, fine := exact(a.Seats, b.Seats)
	wheels, well := exact(a.Wheels, b.Wheels)
	if !mayBe(a) || !mayBe(b) || !fine || !well {
		return api.Load{}, false
	}
	return of(seats, wheels), true
}

func TestRight(t *testing.T) {
	for _, c := range []struct {
		l    api.Load
		want bool
	}{
		{of(0, 0), true}, {of(1000, 1000), true}, {of(3, 1), true}, {of(0, 1000), true}, {of(1000, 0), true},
		{of(1001, 0), false}, {of(0, 1001), false}, {of(-1, 0), false}, {of(0, -1), false}, {of(-1, 1001), false},
		{of(math.MaxInt, 0), false}, {of(0, math.MinInt), false},
	} {
		if got := Right(c.l); got != c.want {
			t.Errorf("Right(%v): %v", c.l, got)
		}
	}
}

func TestAdd(t *testing.T) {
	for _, c := range []struct {
		a, b, want api.Load
		ok         bool
	}{
		{of(1, -2), of(3, 4), of(4, 2), true}, {of(0, 0), of(0, 0), of(0, 0), true},
		{of(Most, -Most), of(-Most, Most), of(0, 0), true}, {of(Most-1, 1-Most), of(1, -1), of(Most, -Most), true},
		{of(Most, 0), of(1, 0), of(0, 0), false}, {of(0, Most), of(5, 1), of(0, 0), false},
		{of(-Most, 0), of(-1, 0), of(0, 0), false}, {of(0, -Most), of(5, -1), of(0, 0), false},
		{of(Most+1, 0), of(-1, 0), of(0, 0), false}, {of(-1, 0), of(Most+1, 0), of(0, 0), false},
		{of(0, -Most-1), of(0, 1), of(0, 0), false}, {of(0, 1), of(0, -Most-1), of(0, 0), false},
		{of(math.MaxInt, 0), of(math.MinInt, 0), of(0, 0), false}, {of(math.MaxInt, 1), of(math.MaxInt, 1), of(0, 0), false},
		{of(1, math.MinInt), of(1, math.MinInt), of(0, 0), false},
	} {
		if got, ok := Add(c.a, c.b); got != c.want || ok != c.ok {
			t.Errorf("Add(%v, %v): %v %v, not %v %v", c.a, c.b, got, ok, c.want, c.ok)
		}
	}
}

func TestAllLoads(t *testing.T) {
	for _, a := range loads() {
		right := a.Seats >= 0 && a.Seats <= 1000 && a.Wheels >= 0 && a.Wheels <= 1000
		if Right(a) != right {
			t.Errorf("Right(%v): %v", a, !right)
		}
		checkNeg(t, a)
		for _, b := range loads() {
			want, may := wantedSum(a, b)
			if got, ok := Add(a, b); got != want || ok != may {
				t.Errorf("Add(%v, %v): %v %v, not %v %v", a, b, got, ok, want, may)
			}
			fits := b.Seats >= 0 && b.Wheels >= 0 && b.Seats <= a.Seats && b.Wheels <= a.Wheels
			if Fits(a, b) != fits {
				t.Errorf("Fits(%v, %v): %v", a, b, !fits)
			}
		}
	}
}

func checkNeg(t *testing.T, l api.Load) {
	t.Helper()
	want := api.Load{}
	if mayBe(l) {
		want = of(-l.Seats, -l.Wheels)
	}
	if got := Neg(l); got != want {
		t.Errorf("Neg(%v): %v, not %v", l, got, want)
	}
}

func TestNeg(t *testing.T) {
	for _, c := range []struct{ l, want api.Load }{
		{of(2, -3), of(-2, 3)}, {of(0, 0), of(0, 0)}, {of(Most, -Most), of(-Most, Most)},
		{of(Most+1, 5), of(0, 0)}, {of(5, Most+1), of(0, 0)}, {of(-Most-1, 5), of(0, 0)}, {of(5, -Most-1), of(0, 0)}, {of(math.MinInt, 1), of(0, 0)},
	} {
		if got := Neg(c.l); got != c.want {
			t.Errorf("Neg(%v): %v", c.l, got)
		}
	}
}

func TestFits(t *testing.T) {
	for _, c := range []struct {
		room, l api.Load
		want    bool
	}{
		{of(2, 1), of(2, 1), true}, {of(2, 1), of(0, 0), true}, {of(0, 0), of(0, 0), true}, {of(2, 1), of(1, 1), true},
		{of(2, 1), of(3, 1), false}, {of(2, 1), of(2, 2), false}, {of(2, 1), of(-1, 0), false}, {of(2, 1), of(0, -1), false},
		{of(-1, 5), of(0, 0), false}, {of(5, -1), of(0, 0), false}, {of(-1, -1), of(-1, -1), false},
		{of(math.MaxInt, math.MaxInt), of(math.MaxInt, 0), true}, {of(math.MaxInt, math.MaxInt), of(math.MinInt, 0), false},
		{of(math.MinInt, math.MinInt), of(0, 0), false},
	} {
		if got := Fits(c.room, c.l); got != c.want {
			t.Errorf("Fits(%v, %v): %v", c.room, c.l, got)
		}
	}
}

func TestProfileAndPeak(t *testing.T) {
	for _, c := range []struct {
		row, behind []api.Load
		peak        api.Load
	}{
		{nil, nil, of(0, 0)},
		{[]api.Load{}, nil, of(0, 0)},
		{[]api.Load{of(1, 0), of(1, 0), of(-1, 0)}, []api.Load{of(1, 0), of(2, 0), of(1, 0)}, of(2, 0)},
		{[]api.Load{of(1, 0), of(1, 1), of(-1, 0), of(2, -1)}, []api.Load{of(1, 0), of(2, 1), of(1, 1), of(3, 0)}, of(3, 1)},
		{[]api.Load{of(4, 0), of(-4, 9), of(0, -9)}, []api.Load{of(4, 0), of(0, 9), of(0, 0)}, of(4, 9)},
		// The peak is none of a part that is below nothing all along.
		{[]api.Load{of(-1, 3), of(-1, 0)}, []api.Load{of(-1, 3), of(-2, 3)}, of(0, 3)},
		{[]api.Load{of(-5, -5)}, []api.Load{of(-5, -5)}, of(0, 0)},
		{[]api.Load{of(Most, -Most), of(-Most, Most), of(-Most, Most)}, []api.Load{of(Most, -Most), of(0, 0), of(-Most, Most)}, of(Most, Most)},
	} {
		if got, ok := Profile(c.row); !slices.Equal(got, c.behind) || !ok {
			t.Errorf("Profile(%v): %v %v", c.row, got, ok)
		}
		if got := Peak(c.row); got != c.peak {
			t.Errorf("Peak(%v): %v, not %v", c.row, got, c.peak)
		}
	}
}

// Each of these rows has a load that may not be, at the place that is told, or comes to one there.
var broken = []struct {
	row []api.Load
	at  int
}{
	{[]api.Load{of(Most+1, 0)}, 0},
	{[]api.Load{of(1, 1), of(0, -Most-1)}, 1},
	{[]api.Load{of(1, 0), of(Most, 0), of(-1, 0)}, 1},
	{[]api.Load{of(0, 1), of(3, 0), of(0, Most), of(0, -9)}, 2},
	{[]api.Load{of(2, 2), of(math.MaxInt, 0), of(math.MaxInt, 0), of(2, 0)}, 1},
	{[]api.Load{of(0, 0), of(0, 0), of(0, math.MinInt)}, 2},
	{[]api.Load{of(7, 7), of(-7, -7), of(Most, Most), of(1, 1)}, 3},
}

func TestWhatMayNotBe(t *testing.T) {
	for _, c := range broken {
		if got, ok := Profile(c.row); len(got) != 0 || ok {
			t.Errorf("Profile(%v): %v %v", c.row, got, ok)
		}
		if got := Peak(c.row); got != of(0, 0) {
			t.Errorf("Peak(%v): %v", c.row, got)
		}
		if got := First(of(math.MaxInt, math.MaxInt), c.row); got != c.at {
			t.Errorf("First(.., %v): %d, not %d", c.row, got, c.at)
		}
	}
	// Below nothing there is more room than up to Most: the sums may be all along, the second load not.
	row := []api.Load{of(-Most, 0), of(2*Most, 0)}
	if got, ok := Profile(row); len(got) != 0 || ok || Peak(row) != of(0, 0) {
		t.Errorf("Profile(%v): %v %v", row, got, ok)
	}
}

func TestFirst(t *testing.T) {
	three := []api.Load{of(1, 0), of(1, 0), of(1, 0)}
	row := []api.Load{of(1, 0), of(1, 1), of(-1, 0), of(2, -1)}
	for _, c := range []struct {
		room api.Load
		row  []api.Load
		want int
	}{
		{of(2, 0), []api.Load{of(1, 0), of(1, 0), of(-1, 0)}, -1}, {of(2, 0), three, 2}, {of(3, 0), three, -1}, {of(0, 0), three, 0},
		{of(3, 1), row, -1}, {of(2, 1), row, 3}, {of(3, 0), row, 1}, {of(1, 0), row, 1}, {of(0, 9), row, 0},
		{of(0, 0), nil, -1}, {of(-1, -1), nil, -1}, {of(-1, 0), []api.Load{}, -1},
		{of(0, 0), []api.Load{of(0, 0)}, -1}, {of(-1, 0), []api.Load{of(0, 0)}, 0}, {of(0, -1), []api.Load{of(0, 0)}, 0},
		{of(5, 5), []api.Load{of(1, 0), of(-2, 0), of(9, 0)}, 1}, {of(5, 5), []api.Load{of(1, 0), of(0, -1), of(0, 9)}, 1},
		{of(5, 5), []api.Load{of(5, 5), of(-5, -5), of(5, 5), of(0, 1)}, 3},
		{of(Most, Most), []api.Load{of(Most, 0), of(0, Most)}, -1},
	} {
		if got := First(c.room, c.row); got != c.want {
			t.Errorf("First(%v, %v): %d, not %d", c.room, c.row, got, c.want)
		}
	}
}

// drawnRow is a short row of small parts now, of corners then.
func drawnRow(draws *rand.Rand) []api.Load {
	part := func() int {
		if draws.IntN(20) == 0 {
			return corners()[draws.IntN(len(corners()))]
		}
		return draws.IntN(6) - 2
	}
	row := make([]api.Load, draws.IntN(7))
	for i := range row {
		row[i] = of(part(), part())
	}
	return row
}

// wantedLoads is the loads behind each of a row, as far as they may be.
func wantedLoads(row []api.Load) []api.Load {
	var behind []api.Load
	var sum api.Load
	for _, l := range row {
		next, may := wantedSum(sum, l)
		if !may {
			break
		}
		sum = next
		behind = append(behind, sum)
	}
	return behind
}

// wantedFirst is what First must answer, of the loads behind a row, as far as they may be.
func wantedFirst(room api.Load, behind []api.Load, count int) int {
	for i, l := range behind {
		if l.Seats < 0 || l.Wheels < 0 || l.Seats > room.Seats || l.Wheels > room.Wheels {
			return i
		}
	}
	if len(behind) < count {
		return len(behind)
	}
	return -1
}

func TestDrawnRows(t *testing.T) {
	draws := rand.New(rand.NewPCG(9, 10))
	for range 20000 {
		row, room := drawnRow(draws), of(draws.IntN(7)-1, draws.IntN(7)-1)
		handed := slices.Clone(row)
		behind := wantedLoads(row)
		if got, want := First(room, row), wantedFirst(room, behind, len(row)); got != want {
			t.Errorf("First(%v, %v): %d, not %d", room, row, got, want)
		}
		may := len(behind) == len(row)
		if !may {
			behind = nil
		}
		if got, ok := Profile(row); !slices.Equal(got, behind) || ok != may {
			t.Errorf("Profile(%v): %v %v", row, got, ok)
		}
		peak := of(0, 0)
		for _, l := range behind {
			peak = of(max(peak.Seats, l.Seats), max(peak.Wheels, l.Wheels))
		}
		if got := Peak(row); got != peak {
			t.Errorf("Peak(%v): %v, not %v", row, got, peak)
		}
		if !slices.Equal(row, handed) {
			t.Fatalf("%v was turned to %v", handed, row)
		}
	}
}

func TestThereAndBack(t *testing.T) {
	draws := rand.New(rand.NewPCG(11, 12))
	fitting := 0
	for range 20000 {
		row, room := drawnRow(draws), of(draws.IntN(9)-1, draws.IntN(9)-1)
		round := slices.Clone(row)
		for _, l := range slices.Backward(row) {
			round = append(round, Neg(l))
		}
		if First(room, round) != First(room, row) {
			t.Errorf("%v has no room for %v from %d on, with the way back from %d on", room, row, First(room, row), First(room, round))
		}
		if First(room, row) < 0 {
			fitting++
		}
		_, there := Profile(row)
		behind, back := Profile(round)
		if there != back || back && len(row) > 0 && behind[len(behind)-1] != of(0, 0) {
			t.Errorf("%v there and back: %v %v", row, behind, back)
		}
	}
	if fitting < 1000 {
		t.Errorf("only %d rows fit", fitting)
	}
}

func TestProfileIsNewMemory(t *testing.T) {
	memory := []api.Load{of(1, 1), of(2, 2), of(9, 9)}
	row := memory[:2]
	first, _ := Profile(row)
	first[0], first[1] = of(7, 7), of(8, 8)
	// Spare room behind an answer is new memory, too.
	for i := range first[:cap(first)] {
		first[:cap(first)][i] = of(5, 5)
	}
	if !slices.Equal(memory, []api.Load{of(1, 1), of(2, 2), of(9, 9)}) {
		t.Errorf("the row was turned to %v", memory)
	}
	if second, ok := Profile(row); !slices.Equal(second, []api.Load{of(1, 1), of(3, 3)}) || !ok {
		t.Errorf("another answer: %v", second)
	}
}

func TestLongRow(t *testing.T) {
	row := slices.Repeat([]api.Load{of(1, 0), of(0, 1), of(-1, 0), of(0, -1)}, 50000)
	if got, ok := Profile(row); len(got) != len(row) || !ok || got[len(got)-1] != of(0, 0) || Peak(row) != of(1, 1) || First(of(1, 1), row) != -1 {
		t.Error("a long row")
	}
}
