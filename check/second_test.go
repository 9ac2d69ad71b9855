package check_test

import (
	"math/big"
	"slices"
	"testing"
	"time"

	"poundage/api"
	"poundage/check"
	"poundage/show"
	"poundage/tree"
)

// micro, whole, maxBound: numbers of the document, by which great ones are divided, and below which they must be.
var (
	micro    = big.NewInt(1000000)
	whole    = big.NewInt(100000)
	maxBound = new(big.Int).Lsh(big.NewInt(1), 60)
)

// wrongs: all that is wrong with a plan, in the document's order, by a second telling: the plan's bound left out.
func wrongs(p api.Plan) []api.Fault {
	var list []api.Fault
	note := func(is bool, err api.Errno, line, col int) {
		if is {
			list = append(list, api.Fault{Err: err, Line: line, Col: col})
		}
	}
	note(stamp(p.To).Before(stamp(p.From)), 5, p.Line, p.Col)
	note(stamp(p.From).AddDate(0, 0, 3999).Before(stamp(p.To)), 6, p.Line, p.Col)
	names := map[string]int{}
	for i, m := range p.Meters {
		names[m.Name]++
		note(i == 4, 6, m.Line, m.Col)
		note(names[m.Name] > 1, 5, m.Line, m.Col)
	}
	for i, f := range p.Fees {
		note(i == 8, 6, f.Line, f.Col)
		note(!windowed(p, f.Window), 5, f.Line, f.Col)
	}
	for i, c := range p.Charges {
		note(i == 8, 6, c.Line, c.Col)
		note(names[c.Meter] == 0, 5, c.Line, c.Col)
		note(!windowed(p, c.Window), 5, c.Line, c.Col)
		note(c.Block == 0, 5, c.Line, c.Col)
		note(len(c.Tiers) > 8, 6, c.Line, c.Col)
		for k, t := range c.Tiers[:len(c.Tiers)-1] {
			note(t.Upto == 0 || k > 0 && c.Tiers[k-1].Upto >= t.Upto, 5, c.Line, c.Col)
		}
		note(len(c.Adjusts) > 6, 6, c.Line, c.Col)
	}
	return list
}

// stamp: a day, by the library's calendar.
func stamp(d api.Date) time.Time {
	return time.Date(d.Year, time.Month(d.Month), d.Day, 0, 0, 0, 0, time.UTC)
}

// windowed: whether the days of a window, if it is one, stand in order between those of the horizon.
func windowed(p api.Plan, w api.Window) bool {
	return !w.Has || slices.IsSortedFunc([]api.Date{p.From, w.From, w.To, p.To}, func(a, b api.Date) int { return stamp(a).Compare(stamp(b)) })
}

// boundOf: a plan's bound by a second telling, of numbers as great as they like; false: there is none.
func boundOf(p api.Plan) (*big.Int, bool) {
	total, fine := new(big.Int), true
	seen := func(n *big.Int) *big.Int {
		fine = fine && n.Cmp(maxBound) < 0
		return n
	}
	for _, f := range p.Fees {
		total = seen(new(big.Int).Add(total, seen(num(f.Amount))))
	}
	for _, c := range p.Charges {
		n := seen(first(p, c))
		for _, a := range c.Adjusts {
			n = seen(became(a, n, upward))
		}
		total = seen(new(big.Int).Add(total, n))
	}
	return total, fine
}

func num(n int) *big.Int { return big.NewInt(int64(n)) }

// first: what a charge comes to at most ahead of its adjustments.
func first(p api.Plan, c api.Charge) *big.Int {
	rates := make([]int, len(c.Tiers))
	for i, t := range c.Tiers {
		rates[i] = t.Rate
	}
	most := p.Meters[slices.IndexFunc(p.Meters, func(m api.Meter) bool { return m.Name == c.Meter })].Max
	return upward(new(big.Int).Mul(num(slices.Max(rates)), num(remaining(c, most))), micro, 0)
}

// remaining: what is left of a quantity, block by block.
func remaining(c api.Charge, q int) int {
	if q <= c.Allowance {
		return 0
	}
	blocks := (q - c.Allowance) / c.Block
	if blocks*c.Block < q-c.Allowance {
		blocks++
	}
	return blocks * c.Block
}

// upward: n divided by d, rounded up, whatever the mode is.
func upward(n, d *big.Int, _ int) *big.Int {
	q, rest := new(big.Int).QuoRem(n, d, new(big.Int))
	if rest.Sign() > 0 {
		q.Add(q, num(1))
	}
	return q
}

// nearby: n divided by d, rounded by a mode.
func nearby(n, d *big.Int, mode int) *big.Int {
	q, rest := new(big.Int).QuoRem(n, d, new(big.Int))
	half := new(big.Int).Lsh(rest, 1).Cmp(d)
	if mode == api.Ceil && rest.Sign() > 0 || mode >= api.HalfUp && half > 0 || half == 0 && (mode == api.HalfUp || mode == api.HalfEven && q.Bit(0) == 1) {
		q.Add(q, num(1))
	}
	return q
}

// became: what n becomes by an adjustment.
func became(a api.Adjust, n *big.Int, divided func(n, d *big.Int, mode int) *big.Int) *big.Int {
	of := num(a.N)
	switch a.Kind {
	case api.Percent:
		return divided(new(big.Int).Mul(n, of), whole, a.Mode)
	case api.Cap:
		if n.Cmp(of) > 0 {
			return of
		}
	case api.Minimum:
		if n.Cmp(of) < 0 {
			return of
		}
	case api.Add:
		return new(big.Int).Add(n, of)
	}
	return n
}

// costs: what a quantity costs by a charge, by what the layers above say it means.
func costs(c api.Charge, q int) *big.Int {
	left, total := remaining(c, q), new(big.Int)
	step := func(far, rate int) { total.Add(total, new(big.Int).Mul(num(far), num(rate))) }
	reached := 0
	for i, t := range c.Tiers {
		upto := t.Upto
		if i == len(c.Tiers)-1 || upto > left {
			upto = left
		}
		if c.Kind == api.Graduated {
			step(upto-reached, t.Rate)
		} else if reached < left && upto == left {
			step(left, t.Rate)
		}
		reached = upto
	}
	n := nearby(total, micro, c.Mode)
	for _, a := range c.Adjusts {
		n = became(a, n, nearby)
	}
	return n
}

// dearest: what the dearest basket costs on a day on which everything holds, of a plan with which nothing is wrong.
func dearest(p api.Plan) *big.Int {
	total := new(big.Int)
	for _, f := range p.Fees {
		total.Add(total, num(f.Amount))
	}
	for _, m := range p.Meters {
		best := new(big.Int)
		for q := 0; q <= m.Max; q++ {
			sum := new(big.Int)
			for _, c := range p.Charges {
				if c.Meter == m.Name {
					sum.Add(sum, costs(c, q))
				}
			}
			if sum.Cmp(best) > 0 {
				best = sum
			}
		}
		total.Add(total, best)
	}
	return total
}

// hold: Plan and Bound of a plan, held against what they have to answer. Answers the fault.
func hold(t *testing.T, p api.Plan) api.Fault {
	t.Helper()
	var want api.Fault
	if list := wrongs(p); len(list) > 0 {
		want = list[0]
	} else {
		n, ok := boundOf(p)
		if !ok {
			n, want = new(big.Int), api.Fault{Err: 6, Line: p.Line, Col: p.Col}
		}
		if got, has := check.Bound(p); num(got).Cmp(n) != 0 || has != ok {
			t.Fatalf("%s: bound %d, %v, not %v, %v", show.Plan(p), got, has, n, ok)
		}
		if got, has := check.Bound(tree.Plain(p)); num(got).Cmp(n) != 0 || has != ok {
			t.Fatalf("%s: without places, bound %d, %v, not %v, %v", show.Plan(p), got, has, n, ok)
		}
	}
	if got := check.Plan(p); got != want {
		t.Fatalf("%s: %v, not %v", show.Plan(p), got, want)
	}
	if got := check.Plan(tree.Plain(p)); got != (api.Fault{Err: want.Err}) {
		t.Fatalf("%s: without places, %v, not %v", show.Plan(p), got, want.Err)
	}
	return want
}
