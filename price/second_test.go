package price_test

import (
	"fmt"
	"math"
	"math/big"
	"math/rand"
	"slices"
	"testing"
	"time"

	"poundage/api"
	"poundage/core"
	"poundage/price"
)

func num(n int) *big.Int { return big.NewInt(int64(n)) }

// fitting: a number, if it is within 64 bits; else none.
func fitting(n *big.Int) *big.Int {
	if !n.IsInt64() {
		return nil
	}
	return n
}

// divided: n divided by d, rounded by a mode; n isn't below 0.
func divided(n, d *big.Int, mode int) *big.Int {
	down, rest := new(big.Int).QuoRem(n, d, new(big.Int))
	half := new(big.Int).Lsh(rest, 1).Cmp(d)
	switch {
	case mode == api.Ceil && rest.Sign() > 0, mode == api.HalfUp && half >= 0, mode == api.HalfEven && (half > 0 || half == 0 && down.Bit(0) == 1):
		return down.Add(down, num(1))
	}
	return down
}

// remaining: what is left of a quantity by a part: so many whole blocks.
func remaining(x api.Part, q int) *big.Int {
	over := new(big.Int).Sub(num(q), num(x.Allowance))
	if over.Sign() < 0 {
		return new(big.Int)
	}
	blocks := divided(over, num(x.Block), api.Ceil)
	return blocks.Mul(blocks, num(x.Block))
}

// charged: what a quantity costs by a part ahead of its adjustments, by a second telling: by the units of it that lie in each tier; none, if a number is beyond 64 bits.
func charged(x api.Part, q int) *big.Int {
	left, total, ahead := remaining(x, q), new(big.Int), 0
	if q < 0 || fitting(left) == nil {
		return nil
	}
	for i, t := range x.Tiers {
		far := left
		if i < len(x.Tiers)-1 && left.Cmp(num(t.Upto)) > 0 {
			far = num(t.Upto)
		}
		in := new(big.Int).Sub(far, num(ahead))
		ahead = t.Upto
		switch {
		case in.Sign() <= 0:
		case x.Kind == api.Volume:
			// The last tier with a unit in it is that of all.
			total.Mul(left, num(t.Rate))
		default:
			total.Add(total, in.Mul(in, num(t.Rate)))
		}
	}
	if fitting(total) == nil {
		return nil
	}
	return divided(total, num(1000000), x.Mode)
}

// adjusted: what an amount becomes by an adjustment of a part that can be, by a second telling.
func adjusted(n *big.Int, a api.Adjust) *big.Int {
	of := num(a.N)
	order := []*big.Int{n, of}
	slices.SortFunc(order, func(a, b *big.Int) int { return a.Cmp(b) })
	switch a.Kind {
	case api.Percent:
		return divided(of.Mul(of, n), num(100000), a.Mode)
	case api.Cap:
		return order[0]
	case api.Minimum:
		return order[1]
	}
	return of.Add(of, n)
}

// due: what a quantity costs by a part that can be, by a second telling; none, if a number is beyond 64 bits.
func due(x api.Part, q int) *big.Int {
	n := charged(x, q)
	for _, a := range x.Adjusts {
		if n == nil {
			return nil
		}
		n = fitting(adjusted(n, a))
	}
	return n
}

// holding: whether a day is one of those from one to another one, by a second telling.
func holding(day, from, to int) bool { return day-from >= 0 && to-day >= 0 }

// total: what a basket of a core costs on a day of it, by a second telling; none, if a number is beyond 64 bits.
func total(c api.Core, day int, basket []int) *big.Int {
	sum := new(big.Int)
	for i := range c.Sums {
		if holding(day, c.Sums[i].From, c.Sums[i].To) {
			sum.Add(sum, num(c.Sums[i].Amount))
		}
	}
	for i := range c.Parts {
		if !holding(day, c.Parts[i].From, c.Parts[i].To) {
			continue
		}
		n := due(c.Parts[i], basket[c.Parts[i].Meter])
		if n == nil {
			return nil
		}
		sum.Add(sum, n)
	}
	// None of the amounts is below 0: if the whole is within 64 bits, so are the sums on the way.
	return fitting(sum)
}

// told: what Price has to answer, by a second telling, of a core that can be.
func told(c api.Core, day int, basket []int) (int, api.Errno) {
	fine := day >= c.From && day <= c.To && len(basket) == len(c.Meters)
	for i := 0; fine && i < len(basket); i++ {
		fine = basket[i] >= 0 && basket[i] <= c.Meters[i].Max
	}
	if !fine {
		return 0, api.ErrRange
	}
	n := total(c, day, basket)
	if n == nil {
		return 0, api.ErrOver
	}
	return int(n.Int64()), api.OK
}

// hold: Price of a core that can be, held against the second telling. Answers the error.
func hold(t *testing.T, c api.Core, day int, basket ...int) api.Errno {
	t.Helper()
	want, wrong := told(c, day, basket)
	if n, e := price.Price(c, day, basket...); n != want || e != wrong {
		t.Fatalf("%v on day %d by %+v: %d, %d, not %d, %d", basket, day, c, n, e, want, wrong)
	}
	return wrong
}

// holdPart: Part of a part that can be, held against the second telling. Answers whether there is an answer.
func holdPart(t *testing.T, x api.Part, q int) bool {
	t.Helper()
	want, n := 0, due(x, q)
	if n != nil {
		want = int(n.Int64())
	}
	if got, ok := price.Part(x, q); got != want || ok != (n != nil) {
		t.Fatalf("%d by %+v: %d, %v, not %v", q, x, got, ok, n)
	}
	return n != nil
}

// pick: one of some, at random.
func pick[T any](r *rand.Rand, list ...T) T { return list[r.Intn(len(list))] }

// randomDays: days in order within others, at random.
func randomDays(r *rand.Rand, from, to int) (int, int) {
	a := pick(r, from, to, from+r.Intn(to-from+1))
	return a, pick(r, a, to, to, a+r.Intn(to-a+1))
}

// randomPart: a part that can be, of a core's days and meters, at random; great: its numbers may be as great as may be.
func randomPart(r *rand.Rand, c api.Core, great bool) api.Part {
	x := api.Part{Meter: r.Intn(len(c.Meters)), Kind: 1 + r.Intn(2), Mode: r.Intn(4), Allowance: pick(r, 0, 0, r.Intn(20), r.Intn(1500)), Block: pick(r, 1, 1, 1+r.Intn(9), 1+r.Intn(500))}
	x.From, x.To = randomDays(r, c.From, c.To)
	rate := func() int { return pick(r, 0, 1, 250000*r.Intn(40), r.Intn(5000000), r.Intn(100000000)) }
	if great {
		x.Allowance, x.Block = pick(r, x.Allowance, r.Intn(1000001)), pick(r, x.Block, x.Block, 1+r.Intn(1000000))
		rate = func() int { return pick(r, r.Intn(5000000), r.Intn(1000000000001), api.MaxAmount) }
	}
	step, upto := pick(r, 1, 10, 300), 0
	for range r.Intn(8) {
		upto += 1 + r.Intn(step)
		x.Tiers = append(x.Tiers, api.Tier{Upto: upto, Rate: rate()})
	}
	x.Tiers = append(x.Tiers, api.Tier{Rate: rate()})
	for range r.Intn(7) {
		a := api.Adjust{Kind: 1 + r.Intn(4), N: pick(r, 0, r.Intn(100), r.Intn(10000))}
		if great {
			a = api.Adjust{Kind: pick(r, 1+r.Intn(4), api.Percent, api.Percent), N: pick(r, a.N, r.Intn(1000000000001), api.MaxAmount)}
		}
		if a.Kind == api.Percent {
			a.N, a.Mode = pick(r, 0, 1, r.Intn(200001), 1000*r.Intn(300)), r.Intn(4)
			if great {
				a.N = pick(r, r.Intn(200001), r.Intn(100000001), api.MaxPercent)
			}
		}
		x.Adjusts = append(x.Adjusts, a)
	}
	if great && r.Intn(8) == 0 {
		x.Adjusts = pick(r, beyond(), greatest(), greatest(), greatest()[:4])
	}
	return x
}

// randomCore: a core that can be, at random; great: its numbers may be as great as may be.
func randomCore(r *rand.Rand, great bool) api.Core {
	c := api.Core{Currency: "EUR", From: pick(r, 0, 1, 738885, 3652058, r.Intn(3652059))}
	c.To = min(3652058, c.From+pick(r, 0, 1, r.Intn(10), r.Intn(400), 3999))
	names := []string{"A", "_", "a", "ab", "b", "power", "z"}
	for len(names) > api.MaxMeters || r.Intn(3) == 0 && len(names) > 0 {
		at := r.Intn(len(names))
		names = slices.Delete(names, at, at+1)
	}
	for _, name := range names {
		c.Meters = append(c.Meters, api.Meter{Name: name, Unit: "kWh", Max: pick(r, 0, 1, r.Intn(50), r.Intn(2001), api.MaxQuantity)})
	}
	for range r.Intn(9) {
		s := api.Sum{Amount: pick(r, 0, r.Intn(100), r.Intn(1000000), api.MaxAmount)}
		s.From, s.To = randomDays(r, c.From, c.To)
		c.Sums = append(c.Sums, s)
	}
	if len(c.Meters) > 0 {
		for range r.Intn(9) {
			c.Parts = append(c.Parts, randomPart(r, c, great))
		}
	}
	return c
}

// days: days of a core on which something begins, or ends; those about them; and some.
func days(r *rand.Rand, c api.Core) []int {
	list := []int{c.From, c.To, c.From + r.Intn(c.To-c.From+1)}
	about := func(from, to int) { list = append(list, from-1, from, to, to+1) }
	for _, s := range c.Sums {
		about(s.From, s.To)
	}
	for _, x := range c.Parts {
		about(x.From, x.To)
	}
	list = slices.DeleteFunc(list, func(day int) bool { return day < c.From || day > c.To })
	slices.Sort(list)
	return slices.Compact(list)
}

// quantity: a quantity of a core's meter, at which something begins, or ends, or any.
func quantity(r *rand.Rand, c api.Core, meter int) int {
	most := c.Meters[meter].Max
	list := []int{0, 1, most, most - 1, r.Intn(most + 1)}
	for _, x := range c.Parts {
		if x.Meter == meter {
			list = append(list, x.Allowance, x.Allowance+1, x.Allowance+x.Block, x.Allowance+x.Block+1, x.Allowance+pick(r, x.Tiers...).Upto, x.Allowance+pick(r, x.Tiers...).Upto+1)
		}
	}
	return max(0, min(most, pick(r, list...)))
}

// basket: a basket of a core, at random.
func basket(r *rand.Rand, c api.Core) []int {
	list := make([]int, len(c.Meters))
	for i := range list {
		list[i] = quantity(r, c, i)
	}
	return list
}

// planOf: a plan of which a core is made, if it has a bound; its meters told in any order.
func planOf(r *rand.Rand, c api.Core) api.Plan {
	date := func(n int) api.Date {
		year, month, d := time.Date(1, 1, 1+n, 0, 0, 0, 0, time.UTC).Date()
		return api.Date{Year: year, Month: int(month), Day: d}
	}
	window := func(from, to int) api.Window {
		if from == c.From && to == c.To && r.Intn(2) == 0 {
			return api.Window{}
		}
		return api.Window{Has: true, From: date(from), To: date(to)}
	}
	p := api.Plan{Name: "p", Currency: c.Currency, From: date(c.From), To: date(c.To), Meters: slices.Clone(c.Meters)}
	r.Shuffle(len(p.Meters), func(i, k int) { p.Meters[i], p.Meters[k] = p.Meters[k], p.Meters[i] })
	for _, s := range c.Sums {
		p.Fees = append(p.Fees, api.Fee{Amount: s.Amount, Window: window(s.From, s.To)})
	}
	for _, x := range c.Parts {
		p.Charges = append(p.Charges, api.Charge{Meter: c.Meters[x.Meter].Name, Window: window(x.From, x.To), Allowance: x.Allowance, Block: x.Block, Kind: x.Kind, Tiers: x.Tiers, Mode: x.Mode, Adjusts: x.Adjusts})
	}
	return p
}

// read: the core of a text's plan, with which nothing is wrong.
func read(t *testing.T, s string) api.Core {
	t.Helper()
	c, fault := core.Read(s)
	if fault != (api.Fault{}) {
		t.Fatalf("%s: %v", s, fault)
	}
	return c
}

// all: all of a core and its lists, spare room included, as a text.
func all(c api.Core) string {
	s := fmt.Sprintf("%+v %+v %+v %+v", c, c.Meters[:cap(c.Meters)], c.Sums[:cap(c.Sums)], c.Parts[:cap(c.Parts)])
	for _, x := range c.Parts {
		s += fmt.Sprintf(" %+v %+v", x.Tiers[:cap(x.Tiers)], x.Adjusts[:cap(x.Adjusts)])
	}
	return s
}

// far: numbers that are no day, and no quantity.
var far = []int{math.MinInt, math.MinInt + 1, -1 << 32, -2, -1, 3652059, 1 << 32, math.MaxInt - 1, math.MaxInt}
