package num

import (
	"math"
	"math/big"
	"testing"
)

// corners are numbers round every bound that the chapter names, and round those of the machine.
func corners() []int64 {
	var list []int64
	for _, middle := range []int64{0, 1 << 30, 1 << 31, 1 << 52, 1 << 53, Most / 3, Most / 2, Most, 1 << 62} {
		for d := int64(-3); d <= 3; d++ {
			list = append(list, middle+d, -middle+d)
		}
	}
	for d := range int64(3) {
		list = append(list, math.MaxInt64-d, math.MinInt64+d)
	}
	return append(list, 7, -7, 10, -10, 1000003, -1000003)
}

func mayBe(n *big.Int) bool {
	return n.CmpAbs(big.NewInt(Most)) <= 0
}

// wanted is what Add, Sum and Mul must answer of an exact number, if all numbers ahead of it may be.
func wanted(exact *big.Int, fine bool) (int64, bool) {
	if !fine || !mayBe(exact) {
		return 0, false
	}
	return exact.Int64(), true
}

func TestAddAndMul(t *testing.T) {
	for _, a := range corners() {
		for _, b := range corners() {
			x, y := big.NewInt(a), big.NewInt(b)
			fine := mayBe(x) && mayBe(y)
			want, may := wanted(new(big.Int).Add(x, y), fine)
			if got, ok := Add(a, b); got != want || ok != may {
				t.Errorf("Add(%d, %d): %d %v, not %d %v", a, b, got, ok, want, may)
			}
			want, may = wanted(new(big.Int).Mul(x, y), fine)
			if got, ok := Mul(a, b); got != want || ok != may {
				t.Errorf("Mul(%d, %d): %d %v, not %d %v", a, b, got, ok, want, may)
			}
		}
	}
}

func TestMulAtItsBound(t *testing.T) {
	for factor := int64(1); factor < 1<<31; factor = factor*3/2 + 1 {
		other := int64(Most) / factor
		if _, ok := Mul(factor, -other); !ok {
			t.Errorf("%d times %d may be", factor, -other)
		}
		if got, ok := Mul(-factor, other+1); got != 0 || ok {
			t.Errorf("%d times %d may not be: %d", -factor, other+1, got)
		}
	}
}

func TestSum(t *testing.T) {
	for _, c := range []struct {
		list []int64
		want int64
		ok   bool
	}{
		{nil, 0, true},
		{[]int64{}, 0, true},
		{[]int64{-5}, -5, true},
		{[]int64{1, 2, 3, -10}, -4, true},
		{[]int64{Most, 0, -Most, -Most, Most}, 0, true},
		{[]int64{Most, 1, -1}, 0, false},
		{[]int64{Most, -1, 1}, Most, true},
		{[]int64{-Most, -1, 1}, 0, false},
		{[]int64{Most + 1}, 0, false},
		{[]int64{-Most - 1}, 0, false},
		{[]int64{-1, Most + 1}, 0, false},
		{[]int64{1, 2, math.MinInt64}, 0, false},
		{[]int64{math.MaxInt64, math.MaxInt64, 2}, 0, false},
	} {
		if got, ok := Sum(c.list...); got != c.want || ok != c.ok {
			t.Errorf("%v: %d %v, not %d %v", c.list, got, ok, c.want, c.ok)
		}
	}
}

func TestSumAddsFromTheFirstOneOn(t *testing.T) {
	for _, a := range corners() {
		for _, b := range corners() {
			for _, c := range []int64{-Most - 1, -Most, -1, 0, 1, 5, Most, math.MaxInt64} {
				part, fine := Add(a, b)
				want, may := int64(0), false
				if fine {
					want, may = Add(part, c)
				}
				if got, ok := Sum(a, b, c); got != want || ok != may {
					t.Errorf("Sum(%d, %d, %d): %d %v, not %d %v", a, b, c, got, ok, want, may)
				}
			}
		}
	}
}

func TestSumLeavesItsList(t *testing.T) {
	list := []int64{3, 4, 5, 99}
	if got, ok := Sum(list[:3]...); got != 12 || !ok {
		t.Errorf("%d %v", got, ok)
	}
	for i, want := range []int64{3, 4, 5, 99} {
		if list[i] != want {
			t.Errorf("place %d was turned to %d", i, list[i])
		}
	}
}

func TestHeld(t *testing.T) {
	for _, c := range []struct{ n, low, high, want int64 }{
		{5, 1, 9, 5}, {1, 1, 9, 1}, {9, 1, 9, 9}, {0, 1, 9, 1}, {10, 1, 9, 9},
		{4, 4, 4, 4}, {3, 4, 4, 4}, {5, 4, 4, 4},
		{2, 7, 3, 7}, {5, 7, 3, 7}, {9, 7, 3, 7},
		{math.MinInt64, math.MinInt64, math.MaxInt64, math.MinInt64},
		{math.MaxInt64, math.MinInt64, 0, 0},
		{math.MinInt64, 0, math.MaxInt64, 0},
		{0, math.MaxInt64, math.MinInt64, math.MaxInt64},
	} {
		if got := Held(c.n, c.low, c.high); got != c.want {
			t.Errorf("Held(%d, %d, %d): %d, not %d", c.n, c.low, c.high, got, c.want)
		}
	}
}

func TestCeil(t *testing.T) {
	for _, c := range []struct{ a, b, want int64 }{
		{7, 2, 4}, {-7, 2, -3}, {6, 2, 3}, {-6, 2, -3}, {0, 9, 0}, {1, 9, 1}, {-1, 9, 0},
		{math.MaxInt64, 1, math.MaxInt64}, {math.MinInt64, 1, math.MinInt64},
		{math.MaxInt64, math.MaxInt64, 1}, {math.MinInt64, math.MaxInt64, -1},
		{7, 0, 0}, {7, -2, 0}, {-7, -2, 0}, {math.MinInt64, -1, 0}, {5, math.MinInt64, 0},
	} {
		if got := Ceil(c.a, c.b); got != c.want {
			t.Errorf("Ceil(%d, %d): %d, not %d", c.a, c.b, got, c.want)
		}
	}
}

func TestCeilIsTheLeast(t *testing.T) {
	for _, a := range corners() {
		for _, b := range corners() {
			if b < 1 {
				continue
			}
			got, x, y := big.NewInt(Ceil(a, b)), big.NewInt(a), big.NewInt(b)
			product := new(big.Int).Mul(got, y)
			if product.Cmp(x) < 0 || product.Sub(product, y).Cmp(x) >= 0 {
				t.Errorf("Ceil(%d, %d): %d", a, b, got)
			}
		}
	}
}

func TestRoot(t *testing.T) {
	for _, c := range []struct{ n, want int64 }{
		{0, 0}, {1, 1}, {2, 2}, {3, 2}, {4, 2}, {5, 3}, {10, 4}, {16, 4}, {17, 5},
		{-1, 0}, {-16, 0}, {math.MinInt64, 0},
		{Most - 1, 1 << 30}, {Most, 1 << 30}, {Most + 1, 1 << 30}, {math.MaxInt64, 1 << 30},
	} {
		if got := Root(c.n); got != c.want {
			t.Errorf("Root(%d): %d, not %d", c.n, got, c.want)
		}
	}
}

func checkRoot(t *testing.T, n int64) {
	t.Helper()
	got := Root(n)
	if got < 0 || got*got < n || got > 0 && (got-1)*(got-1) >= n {
		t.Errorf("Root(%d): %d", n, got)
	}
}

func TestRootIsTheLeast(t *testing.T) {
	for n := range int64(10000) {
		checkRoot(t, n)
	}
	// Above 2^53 a float doesn't have each number: there squares and their neighbours look the same.
	for root := int64(2); root < 1<<30; root += root/1000 + 1 {
		for d := int64(-2); d <= 2; d++ {
			checkRoot(t, root*root+d)
		}
	}
	for root := int64(1<<30 - 1000); root < 1<<30; root++ {
		for d := int64(-2); d <= 2; d++ {
			checkRoot(t, root*root+d)
		}
	}
}
