package round_test

import (
	"math"
	"math/big"
	"slices"
	"testing"

	"poundage/api"
	"poundage/round"
)

// modes: all there are, in the order in which the cases tell what they answer.
var modes = [4]int{api.Floor, api.Ceil, api.HalfUp, api.HalfEven}

// wrongModes: numbers that are no mode.
var wrongModes = []int{math.MinInt, -3, -2, -1, 4, 5, 6, 7, 8, 256, 1 << 32, math.MaxInt}

// numbers: those at the ends of 64 bits, those whose products come near them, small ones of both signs, and a fixed row of others, of all lengths.
func numbers() []int {
	list := []int{
		math.MinInt, math.MinInt + 1, math.MinInt + 2, math.MinInt/2 - 1, math.MinInt / 2,
		-1 << 33, -1<<32 - 1, -1 << 32, -3037000500, -1 << 31,
		-7, -5, -3, -2, -1, 0, 1, 2, 3, 5, 7,
		1 << 31, 3037000500, 1 << 32, 1<<32 + 1, 1 << 33,
		math.MaxInt / 3, math.MaxInt / 2, math.MaxInt/2 + 1, math.MaxInt - 2, math.MaxInt - 1, math.MaxInt,
	}
	seed := uint64(2)
	for i := range 32 {
		seed = seed*6364136223846793005 + 1442695040888963407
		list = append(list, int(seed)>>(2*i))
	}
	return list
}

// dividers: those of the numbers that are above 0, and those that make rests of their own.
func dividers() []int {
	list := []int{4, 6, 9, 10, 12, api.Micro, api.Whole, 1<<62 - 1, 1<<62 + 1}
	for _, n := range numbers() {
		if n > 0 {
			list = append(list, n)
		}
	}
	return list
}

func great(n int) *big.Int { return big.NewInt(int64(n)) }

func product(a, b int) *big.Int { return new(big.Int).Mul(great(a), great(b)) }

// rounded: p divided by c, rounded, by numbers without an end.
func rounded(p *big.Int, c, mode int) *big.Int {
	// c is above 0: what DivMod answers is the number below, and a rest from 0 on.
	down, rest := new(big.Int).DivMod(p, great(c), new(big.Int))
	half := new(big.Int).Lsh(rest, 1).Cmp(great(c))
	up := false
	switch mode {
	case api.Ceil:
		up = rest.Sign() > 0
	case api.HalfUp:
		up = half >= 0
	case api.HalfEven:
		up = half > 0 || half == 0 && down.Bit(0) == 1
	}
	if up {
		down.Add(down, big.NewInt(1))
	}
	return down
}

// fitting: a great number as one of 64 bits; 0 and false, if it is beyond them.
func fitting(n *big.Int) (int, bool) {
	if !n.IsInt64() {
		return 0, false
	}
	return int(n.Int64()), true
}

// P2.1: Good.
func TestGood(t *testing.T) {
	for i, mode := range modes {
		if mode != i || !round.Good(mode) {
			t.Errorf("%d isn't good", mode)
		}
	}
	for _, mode := range wrongModes {
		if round.Good(mode) {
			t.Errorf("%d is good", mode)
		}
	}
}

type answer struct {
	n  int
	ok bool
}

type roundCase struct {
	a, b, c int
	want    [4]answer
}

// all: the same by all modes.
func all(n int) [4]answer { return [4]answer{{n, true}, {n, true}, {n, true}, {n, true}} }

func four(floor, ceil, halfUp, halfEven int) [4]answer {
	return [4]answer{{floor, true}, {ceil, true}, {halfUp, true}, {halfEven, true}}
}

func checkCases(t *testing.T, cases []roundCase) {
	t.Helper()
	for _, c := range cases {
		for i, mode := range modes {
			if got, ok := round.MulDiv(c.a, c.b, c.c, mode); got != c.want[i].n || ok != c.want[i].ok {
				t.Errorf("MulDiv of %d, %d, %d by %d: %d, %v, not %v", c.a, c.b, c.c, mode, got, ok, c.want[i])
			}
		}
	}
}

// P2.1: MulDiv, ordinary numbers, on both sides of 0.
func TestMulDiv(t *testing.T) {
	checkCases(t, []roundCase{
		{-7, 1, 2, four(-4, -3, -3, -4)}, {7, 1, 2, four(3, 4, 4, 4)}, {7, -1, 2, four(-4, -3, -3, -4)}, {-7, -1, 2, four(3, 4, 4, 4)},
		{5, 1, 2, four(2, 3, 3, 2)}, {-5, 1, 2, four(-3, -2, -2, -2)}, {1, 1, 2, four(0, 1, 1, 0)}, {-1, 1, 2, four(-1, 0, 0, 0)},
		{3, 1, 2, four(1, 2, 2, 2)}, {-3, 1, 2, four(-2, -1, -1, -2)},
		{7, 1, 3, four(2, 3, 2, 2)}, {8, 1, 3, four(2, 3, 3, 3)}, {-7, 1, 3, four(-3, -2, -2, -2)}, {-8, 1, 3, four(-3, -2, -3, -3)},
		{1, 1, 3, four(0, 1, 0, 0)}, {-1, 1, 3, four(-1, 0, 0, 0)}, {2, 1, 3, four(0, 1, 1, 1)}, {-2, 1, 3, four(-1, 0, -1, -1)},
		{3, 7, 2, four(10, 11, 11, 10)}, {-3, 7, 2, four(-11, -10, -10, -10)}, {3, 5, 6, four(2, 3, 3, 2)}, {7, 5, 10, four(3, 4, 4, 4)},
		{6, 1, 2, all(3)}, {-6, 1, 2, all(-3)}, {6, 5, 10, all(3)}, {-6, -5, 10, all(3)}, {9, 1, 1, all(9)},
		{0, 0, 1, all(0)}, {0, 5, 7, all(0)}, {-5, 0, 7, all(0)}, {0, math.MinInt, math.MaxInt, all(0)}, {math.MinInt, 0, 3, all(0)},
		{1000, 107500, api.Whole, all(1075)}, {1, 107500, api.Whole, four(1, 2, 1, 1)}, {333333, 1500000, api.Micro, four(499999, 500000, 500000, 500000)},
	})
}

// P2.1: MulDiv, products beyond 64 bits, and answers at the ends of them.
func TestMulDivAtTheEnds(t *testing.T) {
	var none [4]answer
	checkCases(t, []roundCase{
		{math.MaxInt, math.MaxInt, math.MaxInt, all(math.MaxInt)}, {math.MinInt, math.MaxInt, math.MaxInt, all(math.MinInt)},
		{math.MinInt, 1, 1, all(math.MinInt)}, {1, math.MinInt, 1, all(math.MinInt)}, {math.MaxInt, -1, 1, all(-math.MaxInt)},
		{math.MinInt, -1, 1, none}, {-1, math.MinInt, 1, none}, {math.MinInt, -1, 2, all(1 << 62)}, {math.MinInt, math.MinInt, 1 << 62, none},
		{math.MinInt, math.MinInt, math.MaxInt, none}, {math.MaxInt, 2, 1, none}, {math.MinInt, 2, 1, none}, {math.MinInt, 2, 2, all(math.MinInt)},
		{1, 1, math.MaxInt, four(0, 1, 0, 0)}, {-1, 1, math.MaxInt, four(-1, 0, 0, 0)},
		{math.MaxInt, 1, 2, four(1<<62-1, 1<<62, 1<<62, 1<<62)}, {math.MaxInt, math.MaxInt, 2, none}, {math.MinInt, math.MinInt, 1, none},
		{1 << 61, 1, math.MaxInt, four(0, 1, 0, 0)}, {1 << 62, 1, math.MaxInt, four(0, 1, 1, 1)}, {1<<62 - 1, 1, math.MaxInt, four(0, 1, 0, 0)},
		{-1 << 62, 1, math.MaxInt, four(-1, 0, -1, -1)}, {1 << 61, 1, 1 << 62, four(0, 1, 1, 0)}, {3 << 60, 2, 1 << 62, four(1, 2, 2, 2)},
		// Half below 2^63, and half above -2^63.
		{6148914691236517205, 3, 2, [4]answer{{math.MaxInt, true}}},
		{6148914691236517205, -3, 2, four(math.MinInt, -math.MaxInt, -math.MaxInt, math.MinInt)},
		// Half above 2^63, and half below -2^63.
		{67280421310721, 274177, 2, none},
		{-67280421310721, 274177, 2, [4]answer{{}, {math.MinInt, true}, {math.MinInt, true}, {math.MinInt, true}}},
		// Half, a quarter, and a third below 2^64, where the next whole number has 65 bits.
		{1190112520884487201, 31, 2, none}, {-1190112520884487201, 31, 2, none}, {8198552921648689607, 9, 4, none}, {8198552921648689607, -9, 4, none},
		{177942868878227186, 311, 3, none}, {1 << 62, 4, 1, none}, {1 << 62, -4, 1, none},
	})
}

// P2.1: MulDiv, of all pairs by all dividers, held against numbers without an end.
func TestMulDivOfAll(t *testing.T) {
	list, by := numbers(), dividers()
	for _, a := range list {
		for _, b := range list {
			p := product(a, b)
			for _, c := range by {
				for _, mode := range modes {
					want, wantOK := fitting(rounded(p, c, mode))
					if got, ok := round.MulDiv(a, b, c, mode); got != want || ok != wantOK {
						t.Fatalf("MulDiv of %d, %d, %d by %d: %d, %v, not %d, %v", a, b, c, mode, got, ok, want, wantOK)
					}
				}
			}
		}
	}
}

// P2.1: a c that isn't above 0, and modes that there aren't, also where nothing is to be rounded.
func TestWrongArguments(t *testing.T) {
	for _, c := range []int{0, -1, -2, -7, math.MinInt, math.MinInt + 1} {
		for _, a := range []int{math.MinInt, -6, -1, 0, 1, 6, math.MaxInt} {
			for _, mode := range modes {
				if got, ok := round.MulDiv(a, 3, c, mode); got != 0 || ok {
					t.Errorf("MulDiv of %d, 3, %d by %d: %d, %v", a, c, mode, got, ok)
				}
				if got, ok := round.Div(a, c, mode); got != 0 || ok {
					t.Errorf("Div of %d, %d by %d: %d, %v", a, c, mode, got, ok)
				}
			}
			if got, ok := round.Up(a, c); got != 0 || ok {
				t.Errorf("Up of %d, %d: %d, %v", a, c, got, ok)
			}
		}
	}
	for _, mode := range wrongModes {
		for _, a := range []int{math.MinInt, -7, -6, 0, 1, 6, 7, math.MaxInt} {
			if got, ok := round.MulDiv(a, 1, 2, mode); got != 0 || ok {
				t.Errorf("MulDiv of %d, 1, 2 by %d: %d, %v", a, mode, got, ok)
			}
			if got, ok := round.Div(a, 1, mode); got != 0 || ok {
				t.Errorf("Div of %d, 1 by %d: %d, %v", a, mode, got, ok)
			}
		}
	}
}

// P2.1: Div.
func TestDiv(t *testing.T) {
	for _, c := range []struct {
		a, c int
		want [4]int
	}{
		{-7, 2, [4]int{-4, -3, -3, -4}}, {5, 2, [4]int{2, 3, 3, 2}}, {0, 3, [4]int{}}, {9, 3, [4]int{3, 3, 3, 3}},
		{math.MinInt, 1, [4]int{math.MinInt, math.MinInt, math.MinInt, math.MinInt}}, {math.MaxInt, 1, [4]int{math.MaxInt, math.MaxInt, math.MaxInt, math.MaxInt}},
		{math.MinInt, math.MaxInt, [4]int{-2, -1, -1, -1}}, {math.MaxInt, math.MaxInt, [4]int{1, 1, 1, 1}},
	} {
		for i, mode := range modes {
			if got, ok := round.Div(c.a, c.c, mode); got != c.want[i] || !ok {
				t.Errorf("Div of %d, %d by %d: %d, %v, not %d", c.a, c.c, mode, got, ok, c.want[i])
			}
		}
	}
	for _, a := range numbers() {
		for _, c := range dividers() {
			for _, mode := range modes {
				want, _ := fitting(rounded(great(a), c, mode))
				if got, ok := round.Div(a, c, mode); got != want || !ok {
					t.Errorf("Div of %d, %d by %d: %d, %v, not %d", a, c, mode, got, ok, want)
				}
			}
		}
	}
}

// P2.1: Up, ordinary numbers and the ends of 64 bits.
func TestUp(t *testing.T) {
	for _, c := range []struct {
		a, c, want int
		ok         bool
	}{
		{0, 5, 0, true}, {1, 5, 5, true}, {4, 5, 5, true}, {5, 5, 5, true}, {6, 5, 10, true}, {-1, 5, 0, true}, {-4, 5, 0, true}, {-5, 5, -5, true}, {-6, 5, -5, true},
		{7, 1, 7, true}, {-7, 1, -7, true}, {0, math.MaxInt, 0, true}, {1, math.MaxInt, math.MaxInt, true}, {-1, math.MaxInt, 0, true},
		{math.MaxInt, 1, math.MaxInt, true}, {math.MinInt, 1, math.MinInt, true}, {math.MinInt, 2, math.MinInt, true}, {math.MinInt, 3, math.MinInt + 2, true},
		{math.MaxInt, math.MaxInt, math.MaxInt, true}, {math.MinInt, math.MaxInt, -math.MaxInt, true}, {-math.MaxInt, math.MaxInt, -math.MaxInt, true},
		{math.MaxInt, 7, math.MaxInt, true}, {math.MaxInt - 1, 2, math.MaxInt - 1, true}, {1 << 62, 1 << 62, 1 << 62, true},
		{math.MaxInt, 2, 0, false}, {math.MaxInt - 1, 4, 0, false}, {1<<62 + 1, 1 << 62, 0, false}, {math.MaxInt, math.MaxInt - 1, 0, false},
	} {
		if got, ok := round.Up(c.a, c.c); got != c.want || ok != c.ok {
			t.Errorf("Up of %d, %d: %d, %v, not %d, %v", c.a, c.c, got, ok, c.want, c.ok)
		}
	}
}

// P2.1: Up, of all pairs, by numbers without an end.
func TestUpOfAll(t *testing.T) {
	for _, a := range numbers() {
		for _, c := range dividers() {
			multiple := rounded(great(a), c, api.Ceil)
			want, wantOK := fitting(multiple.Mul(multiple, great(c)))
			if got, ok := round.Up(a, c); got != want || ok != wantOK {
				t.Errorf("Up of %d, %d: %d, %v, not %d, %v", a, c, got, ok, want, wantOK)
			}
		}
	}
}

// P2.2: less than 1 away, and half at most by the two modes of the nearest.
func TestHowFarAway(t *testing.T) {
	list, by, answers := numbers(), dividers(), 0
	for _, a := range list {
		for _, b := range list {
			for _, c := range by {
				for _, mode := range modes {
					got, ok := round.MulDiv(a, b, c, mode)
					if !ok {
						continue
					}
					answers++
					away := product(got, c)
					away.Sub(away, product(a, b))
					near := mode == api.HalfUp || mode == api.HalfEven
					if away.CmpAbs(great(c)) >= 0 || near && away.Lsh(away, 1).CmpAbs(great(c)) > 0 {
						t.Fatalf("MulDiv of %d, %d, %d by %d: %d", a, b, c, mode, got)
					}
				}
			}
		}
	}
	if answers < len(list)*len(list)*len(by) {
		t.Errorf("only %d answers", answers)
	}
}

// quotient: a number, and by which call it is rounded.
type quotient struct {
	number  *big.Rat
	a, b, c int
}

// rising: many quotients, the lesser ones first.
func rising() []quotient {
	var list []quotient
	add := func(a, b, c int) {
		list = append(list, quotient{new(big.Rat).SetFrac(product(a, b), great(c)), a, b, c})
	}
	for a := -40; a <= 40; a++ {
		for c := 1; c <= 12; c++ {
			add(a, 1, c)
		}
	}
	for _, a := range numbers() {
		for i, c := range dividers() {
			add(a, c-1, c)
			add(a, i+1, c)
		}
	}
	slices.SortFunc(list, func(x, y quotient) int { return x.number.Cmp(y.number) })
	return list
}

// P2.2: a greater number isn't rounded to a lesser one.
func TestGreaterIsNotLesser(t *testing.T) {
	list := rising()
	for _, mode := range modes {
		last, answers := math.MinInt, 0
		for _, q := range list {
			got, ok := round.MulDiv(q.a, q.b, q.c, mode)
			if !ok {
				continue
			}
			answers++
			if got < last {
				t.Fatalf("MulDiv of %d, %d, %d by %d: %d, but %d of a lesser number", q.a, q.b, q.c, mode, got, last)
			}
			last = got
		}
		if answers < len(list)/2 {
			t.Errorf("only %d answers of %d", answers, len(list))
		}
	}
}
