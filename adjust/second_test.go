package adjust_test

import (
	"math"
	"math/big"
	"math/rand"
	"testing"

	"poundage/adjust"
	"poundage/api"
)

// modes: all there are.
var modes = []int{api.Floor, api.Ceil, api.HalfUp, api.HalfEven}

// wrongModes and wrongKinds: numbers that are no mode, and no kind.
var (
	wrongModes = []int{math.MinInt, -2, -1, 4, 5, 256, 1 << 32, math.MaxInt}
	wrongKinds = []int{math.MinInt, -4, -1, 0, 5, 6, 256 + 1, 1<<32 + 1, math.MaxInt}
)

// numbers: those at the ends of 64 bits, those whose hundred percent and its parts come near them, those about what the document bounds, and small ones of both signs.
func numbers() []int {
	list := []int{math.MinInt, math.MinInt + 1, math.MaxInt - 1, math.MaxInt}
	for _, n := range []int{
		5, 100, 1050, 25000, 50000, api.Whole, 107500, 150000, 300000, api.Micro, api.MaxPercent, api.MaxAmount, api.MaxBound,
		math.MaxInt / api.MaxPercent, math.MaxInt / 1000, math.MaxInt / api.Whole, math.MaxInt / 3, math.MaxInt / 2,
	} {
		list = append(list, -n-1, -n, -n+1, n-1, n, n+1)
	}
	for n := -3; n <= 3; n++ {
		list = append(list, n)
	}
	return list
}

func num(n int) *big.Int { return big.NewInt(int64(n)) }

// floor: p divided by c, rounded down, of numbers without an end; c is above 0.
func floor(p, c *big.Int) *big.Int { return new(big.Int).Div(p, c) }

// rounded: p divided by c, rounded, by a second telling: each way as a rounding down of another number.
func rounded(p, c *big.Int, mode int) *big.Int {
	minus := new(big.Int).Neg(p)
	twice := new(big.Int).Lsh(c, 1)
	up := floor(new(big.Int).Add(new(big.Int).Lsh(p, 1), c), twice)
	down := floor(new(big.Int).Add(new(big.Int).Lsh(minus, 1), c), twice)
	down.Neg(down)
	switch {
	case mode == api.Floor:
		return floor(p, c)
	case mode == api.Ceil:
		return minus.Neg(floor(minus, c))
	case mode == api.HalfEven && up.Bit(0) == 1:
		return down
	}
	return up
}

// became: what n becomes by an adjustment, by a second telling; none, if there is no such one, or it is beyond 64 bits.
func became(a api.Adjust, n *big.Int) *big.Int {
	by := num(a.N)
	m := n
	switch a.Kind {
	case api.Percent:
		if a.Mode < 0 || a.Mode > 3 {
			return nil
		}
		m = rounded(new(big.Int).Mul(n, by), num(100000), a.Mode)
	case api.Cap:
		if n.Cmp(by) > 0 {
			m = by
		}
	case api.Minimum:
		if n.Cmp(by) < 0 {
			m = by
		}
	case api.Add:
		m = new(big.Int).Add(n, by)
	default:
		return nil
	}
	if !m.IsInt64() {
		return nil
	}
	return m
}

// becameByAll: what n becomes by all, by a second telling: the last one on what those ahead of it made.
func becameByAll(n int, list []api.Adjust) *big.Int {
	if len(list) == 0 {
		return num(n)
	}
	last := len(list) - 1
	ahead := becameByAll(n, list[:last])
	if ahead == nil {
		return nil
	}
	return became(list[last], ahead)
}

// told: an answer of the second telling as one of the calls.
func told(n *big.Int) (int, bool) {
	if n == nil {
		return 0, false
	}
	return int(n.Int64()), true
}

// holdOne: One, held against the second telling.
func holdOne(t *testing.T, a api.Adjust, n int) {
	t.Helper()
	want, has := told(became(a, num(n)))
	if got, ok := adjust.One(a, n); got != want || ok != has {
		t.Fatalf("One of %+v, %d: %d, %v, not %d, %v", a, n, got, ok, want, has)
	}
}

// holdAll: All, held against the second telling; and whether it has an answer.
func holdAll(t *testing.T, n int, list ...api.Adjust) bool {
	t.Helper()
	want, has := told(becameByAll(n, list))
	if got, ok := adjust.All(n, list...); got != want || ok != has {
		t.Fatalf("All of %d, %+v: %d, %v, not %d, %v", n, list, got, ok, want, has)
	}
	return has
}

// pick: one of some, at random.
func pick[T any](r *rand.Rand, list ...T) T { return list[r.Intn(len(list))] }

// anywhere: a number of any length, and of both signs, at random.
func anywhere(r *rand.Rand) int { return int(r.Uint64()) >> r.Intn(64) }

// ordinary: an adjustment as plans have them, at random.
func ordinary(r *rand.Rand) api.Adjust {
	a := api.Adjust{Kind: 1 + r.Intn(4), N: pick(r, r.Intn(1000), r.Intn(200001), r.Intn(api.MaxAmount+1), 0, api.MaxAmount)}
	if a.Kind == api.Percent {
		a.N, a.Mode = pick(r, r.Intn(200001), 1000*r.Intn(300), r.Intn(api.MaxPercent+1), 0, api.Whole, api.MaxPercent), r.Intn(4)
	}
	return a
}

// above: an adjustment whose N isn't below 0, of any length, at random.
func above(r *rand.Rand) api.Adjust {
	return api.Adjust{Kind: 1 + r.Intn(4), N: anywhere(r) & math.MaxInt, Mode: r.Intn(4)}
}

// odd: an adjustment of any numbers, at random: one in some is none.
func odd(r *rand.Rand) api.Adjust {
	return api.Adjust{
		Kind: pick(r, 1, 2, 3, 4, 1+r.Intn(4), pick(r, wrongKinds...)),
		N:    pick(r, anywhere(r), pick(r, numbers()...), r.Intn(200001)),
		Mode: pick(r, r.Intn(4), r.Intn(4), r.Intn(4), r.Intn(4), pick(r, wrongModes...)),
	}
}
