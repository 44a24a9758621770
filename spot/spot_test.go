package spot

import (
	"cmp"
	"math"
	"math/rand/v2"
	"slices"
	"testing"

	"jitney/api"
)

const far = api.MaxCoord

// nowhere is numbers that are no spots.
func nowhere() []complex128 {
	nan, inf := math.NaN(), math.Inf(1)
	return []complex128{
		0.5, 0.5i, complex(1, -0.5), complex(far+1, 0), complex(0, far+1), complex(-far-1, 3), complex(3, -far-1),
		complex(far+0.5, 0), complex(0, math.SmallestNonzeroFloat64), complex(math.MaxFloat64, 1), complex(1, -math.MaxFloat64),
		complex(nan, 0), complex(0, nan), complex(nan, nan), complex(inf, 0), complex(0, inf), complex(-inf, 1), complex(1, -inf),
		complex(inf, nan), complex(nan, -inf), complex(inf, -inf), complex(1<<63, 1<<63),
	}
}

// grid is all spots that are near 0.
func grid(size int) []complex128 {
	var list []complex128
	for x := -size; x <= size; x++ {
		for y := -size; y <= size; y++ {
			list = append(list, complex(float64(x), float64(y)))
		}
	}
	return list
}

// edges is spots at the bounds, where differences, and their products, are greatest, or all but the same.
func edges() []complex128 {
	var list []complex128
	for _, x := range []float64{-far, -far + 1, -1, 0, 1, far - 2, far - 1, far} {
		for _, y := range []float64{-far, -far + 1, -1, 0, 1, far - 2, far - 1, far} {
			list = append(list, complex(x, y))
		}
	}
	return list
}

// scattered is spots from all over the plane, the same each time.
func scattered(count int) []complex128 {
	draws := rand.New(rand.NewPCG(1, 2))
	list := make([]complex128, count)
	for i := range list {
		list[i] = complex(float64(draws.IntN(2*far+1)-far), float64(draws.IntN(2*far+1)-far))
	}
	return list
}

func way(a, b complex128) (x, y int64) {
	return int64(real(b)) - int64(real(a)), int64(imag(b)) - int64(imag(a))
}

// turned is Turn in whole numbers.
func turned(o, a, b complex128) int {
	ax, ay := way(o, a)
	bx, by := way(o, b)
	return cmp.Compare(ax*by, ay*bx)
}

func squared(a, b complex128) int64 {
	x, y := way(a, b)
	return x*x + y*y
}

func TestGood(t *testing.T) {
	for _, c := range nowhere() {
		if Good(c) {
			t.Errorf("%v is no spot", c)
		}
	}
	minus := math.Copysign(0, -1)
	for _, c := range append(edges(), complex(minus, minus), complex(minus, 5), -3+4i) {
		if !Good(c) {
			t.Errorf("%v is a spot", c)
		}
	}
}

func TestAt(t *testing.T) {
	for _, c := range []struct {
		x, y int
		want complex128
		ok   bool
	}{
		{0, 0, 0, true}, {-5, 7, -5 + 7i, true}, {far, -far, complex(far, -far), true}, {-far, far, complex(-far, far), true},
		{far + 1, 0, 0, false}, {0, far + 1, 0, false}, {-far - 1, 0, 0, false}, {0, -far - 1, 0, false},
		{math.MaxInt, 1, 0, false}, {1, math.MinInt, 0, false}, {math.MinInt, math.MaxInt, 0, false},
	} {
		if got, ok := At(c.x, c.y); got != c.want || ok != c.ok {
			t.Errorf("At(%d, %d): %v %v", c.x, c.y, got, ok)
		}
	}
}

func TestXY(t *testing.T) {
	for _, c := range append(edges(), 2-9i) {
		x, y := XY(c)
		if got, ok := At(x, y); got != c || !ok {
			t.Errorf("XY(%v): %d %d", c, x, y)
		}
	}
	for _, c := range nowhere() {
		if x, y := XY(c); x != 0 || y != 0 {
			t.Errorf("XY(%v): %d %d", c, x, y)
		}
	}
}

func TestHowFar(t *testing.T) {
	for _, c := range []struct {
		a, b         complex128
		square, dist int64
	}{
		{0, 3 + 4i, 25, 5}, {1, 2 + 1i, 2, 2}, {-1i, -1i, 0, 0}, {2, 5, 9, 3}, {0, 1 + 3i, 10, 4},
		{-far, far, 1 << 50, 1 << 25}, {complex(-far, -far), complex(far, far), 1 << 51, 47453133},
	} {
		if got := Square(c.a, c.b); got != c.square {
			t.Errorf("Square(%v, %v): %d", c.a, c.b, got)
		}
		if got := Dist(c.a, c.b); got != c.dist {
			t.Errorf("Dist(%v, %v): %d", c.a, c.b, got)
		}
	}
	for _, a := range append(edges(), scattered(50)...) {
		for _, b := range append(edges(), scattered(50)...) {
			square, dist := Square(a, b), Dist(a, b)
			if square != squared(a, b) {
				t.Errorf("Square(%v, %v): %d", a, b, square)
			}
			if dist*dist < square || dist > 0 && (dist-1)*(dist-1) >= square {
				t.Errorf("Dist(%v, %v): %d", a, b, dist)
			}
		}
	}
}

func TestNoWayRoundIsShorter(t *testing.T) {
	for _, list := range [][]complex128{grid(3), edges(), scattered(60)} {
		for _, a := range list {
			if Dist(a, a) != 0 {
				t.Errorf("%v is far from itself", a)
			}
			for _, b := range list {
				if Dist(a, b) != Dist(b, a) {
					t.Errorf("from %v to %v, and back", a, b)
				}
				for _, c := range list {
					if Dist(a, b) > Dist(a, c)+Dist(c, b) {
						t.Errorf("from %v to %v by %v", a, b, c)
					}
				}
			}
		}
	}
}

func TestTurn(t *testing.T) {
	for _, c := range []struct {
		o, a, b complex128
		want    int
	}{
		{0, 1, 1i, 1}, {0, 1, -1i, -1}, {0, 1, 5, 0}, {0, 1, -5, 0}, {1, 2, 5, 0}, {1 + 1i, 1 + 1i, 7, 0}, {2, 7i, 2, 0},
		{complex(-far, -far), complex(far, far), complex(far-1, far), 1},
		{complex(-far, -far), complex(far, far), complex(far, far-1), -1},
		{complex(-far, -far), complex(far, far-1), complex(far-1, far-2), -1},
	} {
		if got := Turn(c.o, c.a, c.b); got != c.want {
			t.Errorf("Turn(%v, %v, %v): %d", c.o, c.a, c.b, got)
		}
	}
	for _, list := range [][]complex128{grid(2), edges(), scattered(40)} {
		for _, o := range list {
			for _, a := range list {
				for _, b := range list {
					if got := Turn(o, a, b); got != turned(o, a, b) {
						t.Fatalf("Turn(%v, %v, %v): %d", o, a, b, got)
					}
				}
			}
		}
	}
}

func TestBefore(t *testing.T) {
	for _, c := range []struct {
		o, a, b complex128
		want    bool
	}{
		{0, 2, 1i, true}, {0, 1i, 2, false},
		{0, 1, 2, true}, {0, 2, 1, false}, {0, -1, -2, true}, {0, -1i, -2i, true}, {0, 2 + 2i, 1 + 1i, false},
		{0, 1, 1, false}, {5i, 5i, 5i, false},
		{1i, 1i, 2, true}, {1i, 2, 1i, false}, {1i, 1i, 7 + 1i, true},
		{0, 5, -1, true}, {0, -1, 5, false}, {0, -1, -1i, true}, {0, -1i, -1, false},
		{0, 1i, -1 + 1i, true}, {0, -1 + 1i, -1, true}, {0, 1 - 1i, 1, false}, {0, 9, 1 - 1i, true},
		{0, complex(-5, math.Copysign(0, -1)), -5, false}, {0, complex(5, math.Copysign(0, -1)), 1i, true},
	} {
		if got := Before(c.o, c.a, c.b); got != c.want {
			t.Errorf("Before(%v, %v, %v): %v", c.o, c.a, c.b, got)
		}
	}
}

// angle is how far one turns from the east to look along a way, from 0 on, less than a whole turn.
func angle(x, y int64) float64 {
	got := math.Atan2(float64(y), float64(x))
	if got < 0 {
		got += 2 * math.Pi
	}
	return got
}

// ahead is Before by angles: exact enough on a small grid, where angles that aren't the same are far apart.
func ahead(o, a, b complex128) bool {
	if a == o || b == o {
		return a == o && b != o
	}
	ax, ay := way(o, a)
	bx, by := way(o, b)
	if apart := angle(ax, ay) - angle(bx, by); math.Abs(apart) > 1e-6 {
		return apart < 0
	}
	return squared(o, a) < squared(o, b)
}

func TestBeforeByAngles(t *testing.T) {
	list := grid(4)
	for _, o := range []complex128{0, 1 - 2i, -4 - 4i, 4} {
		for _, a := range list {
			for _, b := range list {
				if got := Before(o, a, b); got != ahead(o, a, b) {
					t.Errorf("Before(%v, %v, %v): %v", o, a, b, got)
				}
			}
		}
	}
}

func TestBeforeFarOff(t *testing.T) {
	o := complex(-far, -far)
	for _, list := range [][]complex128{edges(), scattered(100)} {
		for _, a := range list {
			for _, b := range list {
				if a == o || b == o {
					continue
				}
				// Seen from this corner all angles are at most a quarter of a turn: a turn alone tells.
				want := turned(o, a, b) > 0 || turned(o, a, b) == 0 && squared(o, a) < squared(o, b)
				if got := Before(o, a, b); got != want {
					t.Errorf("Before(%v, %v, %v): %v", o, a, b, got)
				}
			}
		}
	}
}

func TestWhatIsNoSpotAnswersNothing(t *testing.T) {
	for _, bad := range nowhere() {
		for _, c := range [][3]complex128{{bad, 1, 1i}, {0, bad, 1i}, {0, 1, bad}, {bad, bad, 1}, {bad, 1, bad}, {0, bad, bad}, {bad, bad, bad}} {
			if got := Turn(c[0], c[1], c[2]); got != 0 {
				t.Errorf("Turn%v: %d", c, got)
			}
			if Before(c[0], c[1], c[2]) {
				t.Errorf("Before%v", c)
			}
		}
		for _, c := range [][2]complex128{{bad, 1}, {7i, bad}, {bad, bad}} {
			if got := Square(c[0], c[1]); got != 0 {
				t.Errorf("Square%v: %d", c, got)
			}
			if got := Dist(c[0], c[1]); got != 0 {
				t.Errorf("Dist%v: %d", c, got)
			}
		}
	}
}

func TestSweep(t *testing.T) {
	nan := complex(math.NaN(), 0)
	for _, c := range []struct {
		o    complex128
		list []complex128
		want []int
	}{
		{0, nil, nil},
		{nan, nil, nil},
		{0, []complex128{}, nil},
		{0, []complex128{1, 1i, -1, -1i, 0}, []int{4, 0, 1, 2, 3}},
		{0, []complex128{-1i, 0.5, 2, -1, 1, 0, 1i, 1}, []int{5, 4, 7, 2, 6, 3, 0, 1}},
		{1 + 1i, []complex128{1 + 1i, 0, 1 + 1i, 2 + 1i, 1 + 1i}, []int{0, 2, 4, 3, 1}},
		{0, []complex128{nan, 0.5, complex(far+1, 0)}, []int{0, 1, 2}},
		{0, []complex128{nan, 3i, 0.5, 3, nan, 3}, []int{3, 5, 1, 0, 2, 4}},
		{nan, []complex128{1i, 1, nan, 0}, []int{0, 1, 2, 3}},
		{0.5, []complex128{1i, 1}, []int{0, 1}},
	} {
		if got := Sweep(c.o, c.list); !slices.Equal(got, c.want) {
			t.Errorf("Sweep(%v, %v): %v, not %v", c.o, c.list, got, c.want)
		}
	}
}

// checkSweep asks of each two places that follow one another that they stand in order: by these all do.
func checkSweep(t *testing.T, o complex128, list []complex128) {
	t.Helper()
	handed := slices.Clone(list)
	got := Sweep(o, list)
	for i := range list {
		if math.Float64bits(real(list[i])) != math.Float64bits(real(handed[i])) || math.Float64bits(imag(list[i])) != math.Float64bits(imag(handed[i])) {
			t.Fatalf("place %d of the list was turned", i)
		}
	}
	if !slices.Equal(got, Sweep(o, list)) {
		t.Errorf("round %v: another answer", o)
	}
	seen := slices.Sorted(slices.Values(got))
	for i := range list {
		if len(seen) != len(list) || seen[i] != i {
			t.Fatalf("round %v: %v hasn't each place once", o, got)
		}
	}
	for k := 1; k < len(got); k++ {
		i, j := got[k-1], got[k]
		switch a, b := list[i], list[j]; {
		case !Good(b) && Good(a):
		case !Good(a) && Good(b):
			t.Errorf("round %v: %v ahead of %v", o, a, b)
		case Before(o, a, b):
		case Before(o, b, a) || i > j:
			t.Errorf("round %v: place %d, %v, ahead of %d, %v", o, i, a, j, b)
		}
	}
}

func TestSweepGoesRoundOnce(t *testing.T) {
	draws := rand.New(rand.NewPCG(3, 4))
	for _, list := range [][]complex128{grid(3), edges(), scattered(300), append(grid(2), append(nowhere(), grid(2)...)...)} {
		for range 5 {
			draws.Shuffle(len(list), func(i, j int) { list[i], list[j] = list[j], list[i] })
			for _, o := range []complex128{0, 1 + 1i, -2, complex(far, -far), complex(-far, far)} {
				checkSweep(t, o, list)
			}
		}
	}
}
