package algebra_test

import (
	"math/big"
	"math/rand"
	"slices"
	"testing"

	"poundage/algebra"
	"poundage/api"
	"poundage/curve"
	"poundage/line"
)

// great is the greatest of a curve's numbers.
const great = 1 << 61

// reckoning is a call of two curves, and what comes of two numbers by a second telling, over whole numbers without end.
type reckoning struct {
	name string
	call func(a, b api.Curve) (api.Curve, bool)
	of   func(m, n *big.Int) *big.Int
}

// reckonings: all calls of two curves.
func reckonings() []reckoning {
	return []reckoning{
		{"Sum", algebra.Sum, func(m, n *big.Int) *big.Int { return new(big.Int).Add(m, n) }},
		{"Diff", algebra.Diff, func(m, n *big.Int) *big.Int { return new(big.Int).Sub(m, n) }},
		{"Lesser", algebra.Lesser, func(m, n *big.Int) *big.Int { return sorted(m, n)[0] }},
		{"Greater", algebra.Greater, func(m, n *big.Int) *big.Int { return sorted(m, n)[1] }},
	}
}

// sorted: two numbers, the lesser one first.
func sorted(m, n *big.Int) []*big.Int {
	if n.Cmp(m) < 0 {
		return []*big.Int{n, m}
	}
	return []*big.Int{m, n}
}

// scaled: a times by, divided by of, rounded by a mode, by a second telling; nil: there is none.
func scaled(a, by, of, mode int) *big.Int {
	if of <= 0 {
		return nil
	}
	product, part := new(big.Int).Mul(big.NewInt(int64(a)), big.NewInt(int64(by))), big.NewInt(int64(of))
	twice := new(big.Int).Lsh(product, 1)
	// Div rounds down, as the divisors here are above 0.
	switch mode {
	case api.Floor:
		return product.Div(product, part)
	case api.Ceil:
		product.Div(product.Neg(product), part)
		return product.Neg(product)
	case api.HalfUp:
		return twice.Div(twice.Add(twice, part), part.Lsh(part, 1))
	case api.HalfEven:
		near, rest := new(big.Int).DivMod(twice.Add(twice, part), part.Lsh(part, 1), new(big.Int))
		if rest.Sign() == 0 && near.Bit(0) == 1 {
			near.Sub(near, big.NewInt(1))
		}
		return near
	}
	return nil
}

// is: whether an answer has these numbers, in the one form that they have; or is none, if they have no curve.
func is(got api.Curve, ok bool, want []*big.Int) bool {
	if !curves(want) {
		return !ok && got.Max == 0 && len(got.Groups) == 0
	}
	if !ok || got.Max != len(want)-1 || !curve.Good(got) {
		return false
	}
	for q, n := range want {
		if own, ok := curve.At(got, q); !ok || big.NewInt(int64(own)).Cmp(n) != 0 {
			return false
		}
	}
	return true
}

// curves: whether numbers have a curve.
func curves(list []*big.Int) bool {
	most := big.NewInt(great)
	for _, n := range list {
		if n == nil || n.CmpAbs(most) > 0 {
			return false
		}
	}
	return len(list) > 0 && len(list) <= api.MaxQuantity+1
}

// holdTwo: all calls of two curves, held against their lists of numbers.
func holdTwo(t *testing.T, a, b []int) {
	t.Helper()
	first, second := made(t, a...), made(t, b...)
	for _, r := range reckonings() {
		var want []*big.Int
		if len(a) == len(b) {
			for q := range a {
				want = append(want, r.of(big.NewInt(int64(a[q])), big.NewInt(int64(b[q]))))
			}
		}
		if got, ok := r.call(first, second); !is(got, ok, want) {
			t.Fatalf("%s of %v and %v: %v, %v, not %v", r.name, a, b, got, ok, want)
		}
	}
}

// holdShift: Shift, held against a list of numbers.
func holdShift(t *testing.T, list []int, by int) {
	t.Helper()
	var want []*big.Int
	for _, n := range list {
		want = append(want, new(big.Int).Add(big.NewInt(int64(n)), big.NewInt(int64(by))))
	}
	if got, ok := algebra.Shift(made(t, list...), by); !is(got, ok, want) {
		t.Fatalf("Shift of %v by %d: %v, %v, not %v", list, by, got, ok, want)
	}
}

// holdScale: Scale, held against a list of numbers.
func holdScale(t *testing.T, list []int, by, of, mode int) {
	t.Helper()
	var want []*big.Int
	for _, n := range list {
		want = append(want, scaled(n, by, of, mode))
	}
	if got, ok := algebra.Scale(made(t, list...), by, of, mode); !is(got, ok, want) {
		t.Fatalf("Scale of %v by %d, %d, %d: %v, %v, not %v", list, by, of, mode, got, ok, want)
	}
}

// made: the curve of a list of numbers, which has one.
func made(t *testing.T, list ...int) api.Curve {
	t.Helper()
	c, ok := curve.Of(line.Of(0, list...))
	if !ok {
		t.Fatalf("%v has no curve", list)
	}
	return c
}

// lists: every list of up to so many numbers, each of them one of some.
func lists(size int, of ...int) [][]int {
	all, last := [][]int{}, [][]int{{}}
	for range size {
		var longer [][]int
		for _, list := range last {
			for _, n := range of {
				longer = append(longer, append(slices.Clone(list), n))
			}
		}
		all, last = append(all, longer...), longer
	}
	return all
}

// pick: one of some, at random.
func pick[T any](r *rand.Rand, list ...T) T { return list[r.Intn(len(list))] }

// number: one of a curve's numbers, at random.
func number(r *rand.Rand) int {
	return pick(r, 0, 1, -1, r.Intn(9)-4, r.Intn(2000001)-1000000, r.Int()%great-r.Int()%great, great, -great, great-r.Intn(5), r.Intn(5)-great)
}

// random: a list of so many numbers, at random, in steps for the most part; the numbers are within most of 0.
func random(r *rand.Rand, size, most int) []int {
	list := []int{max(min(number(r), most), -most)}
	for len(list) < size {
		width, rise := 1+pick(r, 0, 1, r.Intn(4), r.Intn(50)), pick(r, 1, 2, r.Intn(9)-4, number(r))
		for range 1 + pick(r, 0, r.Intn(6), r.Intn(40)) {
			last := list[len(list)-1]
			list = append(list, slices.Repeat([]int{last}, width-1)...)
			// The sum is never beyond 64 bits: both are within 2^61.
			list = append(list, max(min(last+rise, most), -most))
		}
	}
	return list[:size]
}
