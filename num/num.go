// Package num has numbers that can't go round: layer 1, see shared/doc/01-num.md.
package num

import "math"

// Most is the greatest number that may be.
const Most = 1 << 60

// Add is the sum of two numbers, and whether it and both may be.
func Add(a, b int64) (int64, bool) {
	if !may(a) || !may(b) || !may(a+b) {
		return 0, false
	}
	return a + b, true
}

// Sum is the sum of all numbers, and whether they and each sum on the way may be.
func Sum(xs ...int64) (int64, bool) {
	var sum int64
	for _, x := range xs {
		next, ok := Add(sum, x)
		if !ok {
			return 0, false
		}
		sum = next
	}
	return sum, true
}

// Mul is the product of two numbers, and whether it and both may be.
func Mul(a, b int64) (int64, bool) {
	if !may(a) || !may(b) {
		return 0, false
	}
	// The product itself may go round, so it is the quotient that is asked.
	if a != 0 && size(b) > Most/size(a) {
		return 0, false
	}
	return a * b, true
}

// Held is a number, or the nearer one of its bounds; low, if that is above high.
func Held(n, low, high int64) int64 {
	if n < low || low > high {
		return low
	}
	return min(n, high)
}

// Ceil is the least whole number that is a divided by b, or more; 0, if b is below 1.
func Ceil(a, b int64) int64 {
	if b < 1 {
		return 0
	}
	quotient := a / b
	// Division goes toward 0, which is up already, if a is below 0.
	if a%b > 0 {
		quotient++
	}
	return quotient
}

// Root is the least whole number whose square is n, or more; 0 of numbers below 0, of those above Most as of Most.
func Root(n int64) int64 {
	n = Held(n, 0, Most)
	root := int64(math.Sqrt(float64(n)))
	// A float has 53 bits, and its whole part is cut off: that may be too little, but never too much.
	for root*root < n {
		root++
	}
	return root
}

func may(n int64) bool {
	return -Most <= n && n <= Most
}

func size(n int64) int64 {
	return max(n, -n)
}
