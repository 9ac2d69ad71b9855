// Package exact is layer 1: whole numbers that never go round unseen. See shared/doc/01-exact.md.
package exact

import "math"

// Add: the sum; false: it is beyond 64 bits.
func Add(a, b int) (int, bool) {
	sum := a + b
	// A sum lies above a just if b is above 0: otherwise it went round.
	if (sum > a) != (b > 0) {
		return 0, false
	}
	return sum, true
}

// Sub: the difference; false: it is beyond 64 bits.
func Sub(a, b int) (int, bool) {
	difference := a - b
	// Not Add of -b: the least number has no counterpart above 0.
	if (difference < a) != (b > 0) {
		return 0, false
	}
	return difference, true
}

// Mul: the product; false: it is beyond 64 bits.
func Mul(a, b int) (int, bool) {
	if a == 0 {
		return 0, true
	}
	if a == -1 {
		// The least number, times -1 and divided by it, goes round twice: the test below wouldn't see it.
		return Sub(0, b)
	}
	product := a * b
	// One that went round is 2^64 or more away, so that dividing it can't lead back to b.
	if product/a != b {
		return 0, false
	}
	return product, true
}

// Sum: the sum of all, from the left; false: one is beyond 64 bits.
func Sum(list ...int) (int, bool) {
	total := 0
	for _, n := range list {
		next, ok := Add(total, n)
		if !ok {
			return 0, false
		}
		total = next
	}
	return total, true
}

// FloorDiv: the quotient, rounded down, and the rest; false: by nought, or beyond 64 bits.
func FloorDiv(a, b int) (int, int, bool) {
	if b == 0 || a == math.MinInt && b == -1 {
		return 0, 0, false
	}
	quotient, rest := a/b, a%b
	// The language rounds towards 0, which is up where the signs are unlike: the rest has a's sign then, not b's.
	if rest != 0 && (rest < 0) != (b < 0) {
		return quotient - 1, rest + b, true
	}
	return quotient, rest, true
}

// Least and Most: the least and the greatest of all; false: there is none.
func Least(list ...int) (int, bool) {
	return best(func(a, b int) bool { return a < b }, list...)
}

func Most(list ...int) (int, bool) {
	return best(func(a, b int) bool { return a > b }, list...)
}

// best: the one than which none is better; false: there is none.
func best(better func(a, b int) bool, list ...int) (int, bool) {
	if len(list) == 0 {
		return 0, false
	}
	found := list[0]
	for _, n := range list[1:] {
		if better(n, found) {
			found = n
		}
	}
	return found, true
}
