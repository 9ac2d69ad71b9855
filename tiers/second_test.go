package tiers_test

import (
	"fmt"
	"math"
	"math/big"
	"math/rand"
	"slices"
	"testing"

	"poundage/api"
	"poundage/tiers"
)

func num(n int) *big.Int { return big.NewInt(int64(n)) }

// fitting: a great number as one of 64 bits; 0 and false, if it is beyond them.
func fitting(n *big.Int) (int, bool) {
	if !n.IsInt64() {
		return 0, false
	}
	return int(n.Int64()), true
}

// remaining: what is left of a quantity, by a second telling: block by block, of numbers as great as they like.
func remaining(x api.Part, q int) *big.Int {
	over := new(big.Int).Sub(num(q), num(x.Allowance))
	if over.Sign() < 0 {
		return new(big.Int)
	}
	blocks, rest := new(big.Int).QuoRem(over, num(x.Block), new(big.Int))
	if rest.Sign() > 0 {
		blocks.Add(blocks, num(1))
	}
	return blocks.Mul(blocks, num(x.Block))
}

// tierOf: the place of the tier in which the how manyth unit lies.
func tierOf(x api.Part, unit *big.Int) int {
	for i, t := range x.Tiers[:len(x.Tiers)-1] {
		if unit.Cmp(num(t.Upto)) <= 0 {
			return i
		}
	}
	return len(x.Tiers) - 1
}

// costing: what a quantity that is left costs, by a second telling: all of it by the first rate, and what lies behind a tier by how much more the next one's is.
func costing(x api.Part, left *big.Int) *big.Int {
	if x.Kind == api.Volume {
		return new(big.Int).Mul(left, num(x.Tiers[tierOf(x, left)].Rate))
	}
	total := new(big.Int).Mul(left, num(x.Tiers[0].Rate))
	for i := 1; i < len(x.Tiers); i++ {
		behind := new(big.Int).Sub(left, num(x.Tiers[i-1].Upto))
		if behind.Sign() > 0 {
			total.Add(total, behind.Mul(behind, num(x.Tiers[i].Rate-x.Tiers[i-1].Rate)))
		}
	}
	return total
}

// rounded: millionths in whole amounts, by a second telling; n isn't below 0.
func rounded(n *big.Int, mode int) *big.Int {
	down, rest := new(big.Int).QuoRem(n, num(1000000), new(big.Int))
	half := rest.Cmp(num(500000))
	switch {
	case mode == api.Ceil && rest.Sign() > 0, mode == api.HalfUp && half >= 0, mode == api.HalfEven && (half > 0 || half == 0 && down.Bit(0) == 1):
		return down.Add(down, num(1))
	}
	return down
}

// units: the steps of a small quantity that is left, by a second telling: unit by unit.
func units(x api.Part, q int) []tiers.Step {
	var list []tiers.Step
	last := -1
	for unit := 1; unit <= q; unit++ {
		at := tierOf(x, num(unit))
		if x.Kind == api.Volume {
			at = tierOf(x, num(q))
		}
		if at != last {
			list = append(list, tiers.Step{From: unit - 1, Rate: x.Tiers[at].Rate})
		}
		list[len(list)-1].To, last = unit, at
	}
	return list
}

// hold: all calls of a part that can be, and a quantity, held against the second telling.
func hold(t *testing.T, x api.Part, q int) {
	t.Helper()
	var left, cost, whole int
	var hasLeft, hasCost bool
	if q >= 0 {
		left, hasLeft = fitting(remaining(x, q))
	}
	if hasLeft {
		cost, hasCost = fitting(costing(x, num(left)))
	}
	if hasCost {
		whole, _ = fitting(rounded(num(cost), x.Mode))
	}
	if n, ok := tiers.Quantity(x, q); n != left || ok != hasLeft {
		t.Fatalf("Quantity of %d by %+v: %d, %v, not %d, %v", q, x, n, ok, left, hasLeft)
	}
	if n, ok := tiers.Micro(x, q); n != cost || ok != hasCost {
		t.Fatalf("Micro of %d by %+v: %d, %v, not %d, %v", q, x, n, ok, cost, hasCost)
	}
	if n, ok := tiers.Charge(x, q); n != whole || ok != hasCost {
		t.Fatalf("Charge of %d by %+v: %d, %v, not %d, %v", q, x, n, ok, whole, hasCost)
	}
	holdSteps(t, x, q)
	holdSteps(t, x, left)
}

// holdSteps: the steps of any quantity: one behind the other, each within its tier, which together cost what the quantity does.
func holdSteps(t *testing.T, x api.Part, q int) {
	t.Helper()
	list := slices.Collect(tiers.Steps(x, q))
	if q < 200 && !slices.Equal(list, units(x, q)) {
		t.Fatalf("Steps of %d by %+v: %v, not %v", q, x, list, units(x, q))
	}
	reached, total := 0, new(big.Int)
	for _, s := range list {
		if s.From != reached || s.To <= s.From {
			t.Fatalf("Steps of %d by %+v: %v", q, x, list)
		}
		first := new(big.Int).Add(num(s.From), num(1))
		if x.Kind == api.Volume {
			first = num(q)
		}
		if at := tierOf(x, first); at != tierOf(x, num(s.To)) || x.Tiers[at].Rate != s.Rate {
			t.Fatalf("Steps of %d by %+v: %v", q, x, list)
		}
		reached = s.To
		total.Add(total, new(big.Int).Mul(num(s.Rate), num(s.To-s.From)))
	}
	if reached != max(0, q) || total.Cmp(costing(x, num(reached))) != 0 {
		t.Fatalf("Steps of %d by %+v: %v, of which comes %v", q, x, list, total)
	}
}

// pick: one of some, at random.
func pick[T any](r *rand.Rand, list ...T) T { return list[r.Intn(len(list))] }

// randomPart: a part that can be, but for its Meter, From and To, which may be anything.
func randomPart(r *rand.Rand) api.Part {
	x := api.Part{
		Meter: r.Intn(9) - 4, From: r.Intn(9) - 4, To: r.Intn(9) - 4,
		Allowance: pick(r, 0, r.Intn(50), r.Intn(1000001), api.Micro), Block: pick(r, 1, 1+r.Intn(50), 1+r.Intn(1000000), api.Micro),
		Kind: 1 + r.Intn(2), Mode: r.Intn(4),
	}
	rate := func() int {
		return pick(r, 0, 1, r.Intn(1000), 250000*r.Intn(40), r.Intn(5000000), r.Intn(1000000000001), api.MaxAmount)
	}
	step, upto := pick(r, 1, 20, 2000, 140000), 0
	for range r.Intn(8) {
		upto += 1 + r.Intn(step)
		x.Tiers = append(x.Tiers, api.Tier{Upto: min(upto, api.Micro), Rate: rate()})
	}
	x.Tiers = append(x.Tiers, api.Tier{Rate: rate()})
	for range r.Intn(3) {
		x.Adjusts = append(x.Adjusts, api.Adjust{Kind: api.Add, N: r.Intn(1000)})
	}
	return x
}

// ends: quantities at which something begins, or ends, by a part; those about them; and some anywhere.
func ends(r *rand.Rand, x api.Part) []int {
	list := []int{math.MinInt, math.MinInt + 1, -x.Block, -1, math.MaxInt, math.MaxInt - 1, math.MaxInt - r.Intn(2000000), int(r.Uint64() >> (1 + r.Intn(63))), r.Intn(2001)}
	about := func(n int) { list = append(list, n-1, n, n+1) }
	about(0)
	about(x.Allowance)
	about(x.Allowance + x.Block)
	about(x.Allowance + 7*x.Block)
	// The quantities about the last one of which there are as many whole blocks within 64 bits, without the allowance and with it.
	about(math.MaxInt/x.Block*x.Block - 1)
	about(math.MaxInt - math.MaxInt%x.Block + min(math.MaxInt%x.Block-1, x.Allowance))
	for _, t := range x.Tiers {
		about(t.Upto)
		about(t.Upto + x.Allowance)
		if t.Rate > 0 {
			about(math.MaxInt/t.Rate - 1)
			about(min(math.MaxInt/t.Rate-1, math.MaxInt-1-x.Allowance) + x.Allowance)
		}
	}
	return list
}

// all: all of a part and its lists, spare room included, as a text.
func all(x api.Part) string {
	return fmt.Sprintf("%+v %+v %+v", x, x.Tiers[:cap(x.Tiers)], x.Adjusts[:cap(x.Adjusts)])
}
