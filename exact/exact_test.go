package exact_test

import (
	"math"
	"math/big"
	"slices"
	"testing"

	"poundage/exact"
)

// numbers: those at the ends of 64 bits, those whose products come near them, small ones of both signs, and a fixed row of others, of all lengths.
func numbers() []int {
	list := []int{
		math.MinInt, math.MinInt + 1, math.MinInt + 2, math.MinInt/2 - 1, math.MinInt / 2, math.MinInt/2 + 1,
		-1 << 33, -1<<32 - 1, -1 << 32, -3037000500, -3037000499, -1 << 31, -1000003,
		-10, -7, -3, -2, -1, 0, 1, 2, 3, 7, 10,
		1000003, 1 << 31, 3037000499, 3037000500, 1<<32 - 1, 1 << 32, 1 << 33,
		math.MaxInt / 3, math.MaxInt / 2, math.MaxInt/2 + 1, math.MaxInt/2 + 2, math.MaxInt - 2, math.MaxInt - 1, math.MaxInt,
	}
	seed := uint64(20)
	for i := range 128 {
		seed = seed*6364136223846793005 + 1442695040888963407
		n := int(seed) >> (i / 2)
		list = append(list, n)
	}
	return list
}

// fitting: a great number as one of 64 bits; 0 and false, if it is beyond them.
func fitting(n *big.Int) (int, bool) {
	if !n.IsInt64() {
		return 0, false
	}
	return int(n.Int64()), true
}

func great(n int) *big.Int { return big.NewInt(int64(n)) }

type pairCall func(a, b int) (int, bool)

// checkPairs holds a call against numbers without an end, of all pairs.
func checkPairs(t *testing.T, name string, call pairCall, truth func(z, a, b *big.Int) *big.Int) {
	t.Helper()
	list := numbers()
	for _, a := range list {
		for _, b := range list {
			want, wantOK := fitting(truth(new(big.Int), great(a), great(b)))
			if got, ok := call(a, b); got != want || ok != wantOK {
				t.Errorf("%s of %d and %d: %d, %v, not %d, %v", name, a, b, got, ok, want, wantOK)
			}
		}
	}
}

type pairCase struct {
	a, b, want int
	ok         bool
}

func checkCases(t *testing.T, name string, call pairCall, cases []pairCase) {
	t.Helper()
	for _, c := range cases {
		if got, ok := call(c.a, c.b); got != c.want || ok != c.ok {
			t.Errorf("%s of %d and %d: %d, %v, not %d, %v", name, c.a, c.b, got, ok, c.want, c.ok)
		}
	}
}

// P1.1: Add.
func TestAdd(t *testing.T) {
	checkCases(t, "Add", exact.Add, []pairCase{
		{2, 3, 5, true}, {-2, 3, 1, true}, {2, -3, -1, true}, {-2, -3, -5, true}, {0, 0, 0, true},
		{math.MaxInt, 0, math.MaxInt, true}, {0, math.MaxInt, math.MaxInt, true},
		{math.MinInt, 0, math.MinInt, true}, {0, math.MinInt, math.MinInt, true},
		{math.MaxInt - 1, 1, math.MaxInt, true}, {math.MinInt + 1, -1, math.MinInt, true},
		{math.MaxInt, math.MinInt, -1, true}, {math.MinInt, math.MaxInt, -1, true},
		{math.MaxInt, 1, 0, false}, {1, math.MaxInt, 0, false},
		{math.MinInt, -1, 0, false}, {-1, math.MinInt, 0, false},
		{math.MaxInt, math.MaxInt, 0, false}, {math.MinInt, math.MinInt, 0, false},
		{1 << 62, 1 << 62, 0, false}, {-1 << 62, -1 << 62, math.MinInt, true},
	})
	checkPairs(t, "Add", exact.Add, (*big.Int).Add)
}

// P1.1: Sub.
func TestSub(t *testing.T) {
	checkCases(t, "Sub", exact.Sub, []pairCase{
		{2, 3, -1, true}, {3, 2, 1, true}, {-2, -3, 1, true}, {-2, 3, -5, true}, {0, 0, 0, true},
		{math.MaxInt, 0, math.MaxInt, true}, {math.MinInt, 0, math.MinInt, true},
		{math.MaxInt, math.MaxInt, 0, true}, {math.MinInt, math.MinInt, 0, true},
		{0, math.MaxInt, -math.MaxInt, true}, {-1, math.MaxInt, math.MinInt, true}, {-1, math.MinInt, math.MaxInt, true},
		{-2, math.MaxInt, 0, false}, {0, math.MinInt, 0, false}, {1, math.MinInt, 0, false},
		{math.MinInt, 1, 0, false}, {math.MaxInt, -1, 0, false},
		{math.MaxInt, math.MinInt, 0, false}, {math.MinInt, math.MaxInt, 0, false},
	})
	checkPairs(t, "Sub", exact.Sub, (*big.Int).Sub)
}

// P1.1: Mul.
func TestMul(t *testing.T) {
	checkCases(t, "Mul", exact.Mul, []pairCase{
		{4, 3, 12, true}, {-4, 3, -12, true}, {4, -3, -12, true}, {-4, -3, 12, true},
		{0, 0, 0, true}, {0, math.MinInt, 0, true}, {math.MinInt, 0, 0, true}, {0, math.MaxInt, 0, true}, {math.MaxInt, 0, 0, true},
		{1, math.MinInt, math.MinInt, true}, {math.MinInt, 1, math.MinInt, true},
		{-1, math.MaxInt, -math.MaxInt, true}, {math.MaxInt, -1, -math.MaxInt, true},
		{-1, math.MinInt, 0, false}, {math.MinInt, -1, 0, false},
		{1 << 32, 1 << 31, 0, false}, {1 << 31, 1 << 32, 0, false}, {-1 << 32, -1 << 31, 0, false},
		{-1 << 32, 1 << 31, math.MinInt, true}, {1 << 32, -1 << 31, math.MinInt, true},
		{1 << 32, 1 << 32, 0, false}, {-1 << 32, 1 << 32, 0, false},
		{3037000499, 3037000499, 9223372030926249001, true}, {3037000500, 3037000500, 0, false},
		{math.MinInt, 2, 0, false}, {math.MinInt, -2, 0, false}, {math.MaxInt, 2, 0, false}, {2, math.MaxInt, 0, false},
		{math.MinInt, math.MinInt, 0, false}, {math.MaxInt, math.MaxInt, 0, false}, {math.MinInt, math.MaxInt, 0, false},
	})
	checkPairs(t, "Mul", exact.Mul, (*big.Int).Mul)
}

// P1.1: Sum, the sums from the left being those that count.
func TestSum(t *testing.T) {
	for _, c := range []struct {
		list []int
		want int
		ok   bool
	}{
		{nil, 0, true}, {[]int{}, 0, true}, {[]int{0}, 0, true}, {[]int{-7}, -7, true}, {[]int{1, 2, 3}, 6, true}, {[]int{5, -7, 1}, -1, true},
		{[]int{math.MaxInt}, math.MaxInt, true}, {[]int{math.MinInt}, math.MinInt, true},
		{[]int{math.MaxInt, 1}, 0, false}, {[]int{math.MinInt, -1}, 0, false},
		{[]int{math.MaxInt, 1, -5}, 0, false}, {[]int{math.MaxInt, -5, 1}, math.MaxInt - 4, true}, {[]int{1, -5, math.MaxInt}, math.MaxInt - 4, true},
		{[]int{math.MinInt, -1, 5}, 0, false}, {[]int{math.MinInt, 5, -1}, math.MinInt + 4, true},
		{[]int{math.MaxInt, math.MaxInt, math.MinInt, math.MinInt}, 0, false}, {[]int{math.MaxInt, math.MinInt, math.MaxInt, math.MinInt}, -2, true},
		{[]int{math.MaxInt, math.MaxInt, 2}, 0, false}, {[]int{math.MinInt, math.MinInt}, 0, false},
	} {
		if got, ok := exact.Sum(c.list...); got != c.want || ok != c.ok {
			t.Errorf("Sum of %v: %d, %v, not %d, %v", c.list, got, ok, c.want, c.ok)
		}
	}
	if got, ok := exact.Sum(); got != 0 || !ok {
		t.Errorf("Sum of none: %d, %v", got, ok)
	}
}

// leftSum: the sum of all by numbers without an end, as long as each one from the left is of 64 bits.
func leftSum(list []int) (int, bool) {
	total := new(big.Int)
	for _, n := range list {
		if total.Add(total, great(n)); !total.IsInt64() {
			return 0, false
		}
	}
	return fitting(total)
}

// P1.1: Sum, of all pieces of a row, up to six long, and of its first ones.
func TestSumOfPieces(t *testing.T) {
	list := numbers()
	for from := range list {
		for to := from; to <= min(from+6, len(list)); to++ {
			piece := list[from:to]
			want, wantOK := leftSum(piece)
			if got, ok := exact.Sum(piece...); got != want || ok != wantOK {
				t.Errorf("Sum of %v: %d, %v, not %d, %v", piece, got, ok, want, wantOK)
			}
		}
	}
	small := make([]int, 1000)
	for i := range small {
		small[i] = i - 300
	}
	if got, ok := exact.Sum(small...); got != 199500 || !ok {
		t.Errorf("Sum of -300 to 699: %d, %v", got, ok)
	}
}

// P1.1: FloorDiv, its signs and what it can't answer.
func TestFloorDiv(t *testing.T) {
	for _, c := range []struct {
		a, b, quotient, rest int
		ok                   bool
	}{
		{7, 2, 3, 1, true}, {-7, 2, -4, 1, true}, {7, -2, -4, -1, true}, {-7, -2, 3, -1, true},
		{6, 3, 2, 0, true}, {-6, 3, -2, 0, true}, {6, -3, -2, 0, true}, {-6, -3, 2, 0, true},
		{1, 5, 0, 1, true}, {-1, 5, -1, 4, true}, {1, -5, -1, -4, true}, {-1, -5, 0, -1, true},
		{0, 5, 0, 0, true}, {0, -5, 0, 0, true}, {0, math.MinInt, 0, 0, true},
		{5, 0, 0, 0, false}, {-5, 0, 0, 0, false}, {0, 0, 0, 0, false}, {math.MinInt, 0, 0, 0, false}, {math.MaxInt, 0, 0, 0, false},
		{math.MinInt, -1, 0, 0, false}, {math.MinInt + 1, -1, math.MaxInt, 0, true}, {math.MaxInt, -1, -math.MaxInt, 0, true},
		{math.MinInt, 1, math.MinInt, 0, true}, {math.MaxInt, 1, math.MaxInt, 0, true},
		{math.MinInt, 2, math.MinInt / 2, 0, true}, {math.MinInt, -2, 1 << 62, 0, true},
		{math.MinInt, math.MinInt, 1, 0, true}, {math.MaxInt, math.MaxInt, 1, 0, true},
		{math.MinInt, math.MaxInt, -2, math.MaxInt - 1, true}, {math.MaxInt, math.MinInt, -1, -1, true},
		{1, math.MinInt, -1, math.MinInt + 1, true}, {-1, math.MinInt, 0, -1, true}, {-1, math.MaxInt, -1, math.MaxInt - 1, true},
	} {
		if quotient, rest, ok := exact.FloorDiv(c.a, c.b); quotient != c.quotient || rest != c.rest || ok != c.ok {
			t.Errorf("FloorDiv of %d and %d: %d, %d, %v, not %d, %d, %v", c.a, c.b, quotient, rest, ok, c.quotient, c.rest, c.ok)
		}
	}
}

// floored: whether a is b times the quotient, and a rest that is less than b, and on the same side of 0: there is just one such pair.
func floored(a, b, quotient, rest int) bool {
	back := new(big.Int).Mul(great(quotient), great(b))
	if back.Add(back, great(rest)).Cmp(great(a)) != 0 {
		return false
	}
	return rest == 0 || (rest < 0) == (b < 0) && great(rest).CmpAbs(great(b)) < 0
}

// P1.1: FloorDiv, of all pairs.
func TestFloorDivOfPairs(t *testing.T) {
	list := numbers()
	for _, a := range list {
		for _, b := range list {
			quotient, rest, ok := exact.FloorDiv(a, b)
			wantOK := b != 0 && (a != math.MinInt || b != -1)
			if ok != wantOK || ok && !floored(a, b, quotient, rest) || !ok && (quotient != 0 || rest != 0) {
				t.Errorf("FloorDiv of %d and %d: %d, %d, %v", a, b, quotient, rest, ok)
			}
		}
	}
}

// P1.1: Least and Most, wherever the best one stands.
func TestLeastAndMost(t *testing.T) {
	for _, c := range []struct {
		list        []int
		least, most int
		ok          bool
	}{
		{nil, 0, 0, false}, {[]int{}, 0, 0, false},
		{[]int{0}, 0, 0, true}, {[]int{-3}, -3, -3, true}, {[]int{8}, 8, 8, true}, {[]int{4, 4, 4}, 4, 4, true},
		{[]int{3, -2, 5}, -2, 5, true}, {[]int{-2, 3, 5}, -2, 5, true}, {[]int{5, 3, -2}, -2, 5, true},
		{[]int{7, 9}, 7, 9, true}, {[]int{-9, -7}, -9, -7, true},
		{[]int{math.MaxInt}, math.MaxInt, math.MaxInt, true}, {[]int{math.MinInt}, math.MinInt, math.MinInt, true},
		{[]int{math.MaxInt, math.MinInt}, math.MinInt, math.MaxInt, true}, {[]int{math.MinInt, 0, math.MaxInt}, math.MinInt, math.MaxInt, true},
	} {
		if got, ok := exact.Least(c.list...); got != c.least || ok != c.ok {
			t.Errorf("Least of %v: %d, %v, not %d, %v", c.list, got, ok, c.least, c.ok)
		}
		if got, ok := exact.Most(c.list...); got != c.most || ok != c.ok {
			t.Errorf("Most of %v: %d, %v, not %d, %v", c.list, got, ok, c.most, c.ok)
		}
	}
}

// P1.1: Least and Most, of all pieces of a row, up to six long.
func TestLeastAndMostOfPieces(t *testing.T) {
	list := numbers()
	for from := range list {
		for to := from + 1; to <= min(from+6, len(list)); to++ {
			piece := list[from:to]
			if got, ok := exact.Least(piece...); got != slices.Min(piece) || !ok {
				t.Errorf("Least of %v: %d, %v", piece, got, ok)
			}
			if got, ok := exact.Most(piece...); got != slices.Max(piece) || !ok {
				t.Errorf("Most of %v: %d, %v", piece, got, ok)
			}
		}
	}
}

// P1.1: what is handed in isn't changed, its spare room neither.
func TestListsStayAsTheyAre(t *testing.T) {
	room := []int{3, -2, 5, 11, 13}
	list := room[:3]
	for name, call := range map[string]func(...int) (int, bool){"Sum": exact.Sum, "Least": exact.Least, "Most": exact.Most} {
		call(list...)
		if !slices.Equal(room, []int{3, -2, 5, 11, 13}) {
			t.Fatalf("%s left %v", name, room)
		}
	}
}

// P1.2: a sum less one of its parts is the other one.
func TestSumLessAPart(t *testing.T) {
	list, sums := numbers(), 0
	for _, a := range list {
		for _, b := range list {
			sum, ok := exact.Add(a, b)
			if !ok {
				continue
			}
			sums++
			if got, ok := exact.Sub(sum, a); got != b || !ok {
				t.Errorf("%d less %d: %d, %v, not %d", sum, a, got, ok, b)
			}
			if got, ok := exact.Sub(sum, b); got != a || !ok {
				t.Errorf("%d less %d: %d, %v, not %d", sum, b, got, ok, a)
			}
		}
	}
	if sums < len(list)*len(list)/2 {
		t.Errorf("only %d sums", sums)
	}
}

// checkPart: a product, divided by a part that isn't 0, is the other part, without a rest.
func checkPart(t *testing.T, product, part, other int) {
	t.Helper()
	quotient, rest, ok := exact.FloorDiv(product, part)
	if part == 0 {
		if quotient != 0 || rest != 0 || ok {
			t.Errorf("%d by 0: %d, %d, %v", product, quotient, rest, ok)
		}
		return
	}
	if quotient != other || rest != 0 || !ok {
		t.Errorf("%d by %d: %d, %d, %v, not %d", product, part, quotient, rest, ok, other)
	}
}

// P1.2: a product, divided by one of its parts, is the other one, without a rest.
func TestProductByAPart(t *testing.T) {
	list, products := numbers(), 0
	for _, a := range list {
		for _, b := range list {
			product, ok := exact.Mul(a, b)
			if !ok {
				continue
			}
			products++
			checkPart(t, product, a, b)
			checkPart(t, product, b, a)
		}
	}
	if products < len(list)*len(list)/4 {
		t.Errorf("only %d products", products)
	}
}
