package core_test

import (
	"fmt"
	"math"
	"math/rand"
	"slices"
	"sort"
	"testing"
	"time"

	"poundage/api"
	"poundage/check"
	"poundage/core"
	"poundage/show"
	"poundage/tree"
)

// lastDay: the number of the calendar's last day.
const lastDay = 3652058

// since: a day's number, by the library's calendar.
func since(d api.Date) int {
	first := time.Date(1, 1, 1, 0, 0, 0, 0, time.UTC).Unix()
	return int((time.Date(d.Year, time.Month(d.Month), d.Day, 0, 0, 0, 0, time.UTC).Unix() - first) / 86400)
}

// day: the day of a number, by the library's calendar.
func day(n int) api.Date {
	year, month, d := time.Date(1, 1, 1+n, 0, 0, 0, 0, time.UTC).Date()
	return api.Date{Year: year, Month: int(month), Day: d}
}

// window: a window, from the day of a number to that of another one.
func window(from, to int) api.Window { return api.Window{Has: true, From: day(from), To: day(to)} }

// made: the core of a plan with which nothing is wrong, by a second telling.
func made(p api.Plan) api.Core {
	ends := func(w api.Window) (int, int) {
		if w.Has {
			return since(w.From), since(w.To)
		}
		return since(p.From), since(p.To)
	}
	c := api.Core{Currency: p.Currency, From: since(p.From), To: since(p.To)}
	for _, m := range p.Meters {
		c.Meters = append(c.Meters, api.Meter{Name: m.Name, Unit: m.Unit, Max: m.Max})
	}
	sort.Slice(c.Meters, func(i, k int) bool {
		return slices.Compare([]byte(c.Meters[i].Name), []byte(c.Meters[k].Name)) < 0
	})
	for _, f := range p.Fees {
		from, to := ends(f.Window)
		c.Sums = append(c.Sums, api.Sum{Amount: f.Amount, From: from, To: to})
	}
	for _, x := range p.Charges {
		place := 0
		for _, m := range p.Meters {
			if m.Name < x.Meter {
				place++
			}
		}
		from, to := ends(x.Window)
		c.Parts = append(c.Parts, api.Part{Meter: place, From: from, To: to, Allowance: x.Allowance, Block: x.Block, Kind: x.Kind, Tiers: slices.Clone(x.Tiers), Mode: x.Mode, Adjusts: slices.Clone(x.Adjusts)})
	}
	return c
}

// same: whether two cores are the same, in all that they have.
func same(a, b api.Core) bool {
	return a.Currency == b.Currency && a.From == b.From && a.To == b.To && slices.Equal(a.Meters, b.Meters) && slices.Equal(a.Sums, b.Sums) &&
		slices.EqualFunc(a.Parts, b.Parts, func(x, y api.Part) bool {
			return x.Meter == y.Meter && x.From == y.From && x.To == y.To && x.Allowance == y.Allowance && x.Block == y.Block && x.Kind == y.Kind && x.Mode == y.Mode && slices.Equal(x.Tiers, y.Tiers) && slices.Equal(x.Adjusts, y.Adjusts)
		})
}

// can: whether a core can be, by a second telling: all of its numbers, each between its bounds.
func can(c api.Core) bool {
	fine := true
	number := func(n, least, most int) { fine = fine && least <= n && n <= most }
	days := func(from, to int) {
		number(from, c.From, c.To)
		number(to, from, c.To)
	}
	number(c.From, 0, lastDay)
	number(c.To, c.From, min(lastDay, max(0, min(c.From, lastDay))+3999))
	number(len(c.Meters), 0, 4)
	number(len(c.Sums), 0, 8)
	number(len(c.Parts), 0, 8)
	names := map[string]int{}
	for _, m := range c.Meters {
		names[m.Name]++
		number(names[m.Name], 1, 1)
		number(m.Max, 0, 2000)
		number(m.Line, 0, 0)
		number(m.Col, 0, 0)
	}
	fine = fine && sort.SliceIsSorted(c.Meters, func(i, k int) bool { return c.Meters[i].Name < c.Meters[k].Name })
	for _, s := range c.Sums {
		number(s.Amount, 0, 1e12)
		days(s.From, s.To)
	}
	for _, x := range c.Parts {
		days(x.From, x.To)
		canPart(x, len(c.Meters), number)
	}
	return fine
}

// canPart: hands a part's numbers to number, but for its days.
func canPart(x api.Part, meters int, number func(n, least, most int)) {
	number(x.Meter, 0, meters-1)
	number(x.Allowance, 0, 1e6)
	number(x.Block, 1, 1e6)
	number(x.Kind, 1, 2)
	number(x.Mode, 0, 3)
	number(len(x.Tiers), 1, 8)
	ahead := 0
	for i, t := range x.Tiers {
		if i < len(x.Tiers)-1 {
			number(t.Upto, min(ahead, 1e6)+1, 1e6)
		} else {
			number(t.Upto, 0, 0)
		}
		ahead = t.Upto
		number(t.Rate, 0, 1e12)
	}
	number(len(x.Adjusts), 0, 6)
	for _, a := range x.Adjusts {
		number(a.Kind, 1, 4)
		if a.Kind == api.Percent {
			number(a.N, 0, 1e8)
			number(a.Mode, 0, 3)
		} else {
			number(a.N, 0, 1e12)
			number(a.Mode, 0, 0)
		}
	}
}

// hold: Make of a plan, and Read of its text, held against what they have to answer. Answers the core, and the fault.
func hold(t *testing.T, p api.Plan) (api.Core, api.Fault) {
	t.Helper()
	fault := check.Plan(p)
	var want api.Core
	if fault == (api.Fault{}) {
		want = made(p)
	}
	c, got := core.Make(p)
	if got != fault || !same(c, want) {
		t.Fatalf("%s: %+v, %v, not %+v, %v", show.Plan(p), c, got, want, fault)
	}
	if fault == (api.Fault{}) && !core.Good(c) {
		t.Fatalf("%s: no core that can be: %+v", show.Plan(p), c)
	}
	if c, got := core.Make(tree.Plain(p)); got != (api.Fault{Err: fault.Err}) || !same(c, want) {
		t.Fatalf("%s: without places, %+v, %v, not %+v, %v", show.Plan(p), c, got, want, fault)
	}
	if s := show.Plan(p); len(s) <= api.MaxText {
		if c, got := core.Read(s); got.Err != fault.Err || !same(c, want) {
			t.Fatalf("%s: read, %+v, %v, not %+v, %v", s, c, got, want, fault)
		}
	}
	return c, fault
}

// pick: one of some, at random.
func pick[T any](r *rand.Rand, list ...T) T { return list[r.Intn(len(list))] }

// randomWindow: a window within days, or none; seldom one that isn't within them.
func randomWindow(r *rand.Rand, from, to int) api.Window {
	if r.Intn(3) == 0 {
		return api.Window{}
	}
	a := pick(r, from, to, from+r.Intn(to-from+1))
	b := pick(r, a, to, a+r.Intn(to-a+1))
	if r.Intn(150) == 0 {
		a, b = pick(r, max(0, from-1), b), pick(r, a, min(lastDay, to+1))
	}
	return window(a, b)
}

// randomCharge: a charge of a meter of some names; seldom such that something is wrong with it.
func randomCharge(r *rand.Rand, names []string, w api.Window) api.Charge {
	c := api.Charge{Meter: pick(r, names...), Window: w, Allowance: pick(r, 0, r.Intn(50), api.Micro), Block: pick(r, 1, 1+r.Intn(50), api.Micro), Kind: 1 + r.Intn(2), Mode: r.Intn(4), Line: r.Intn(99), Col: r.Intn(99)}
	rate := func() int { return pick(r, 0, 1, r.Intn(5000000), api.MaxAmount) }
	upto := 0
	for range r.Intn(8) {
		upto += 1 + r.Intn(20)
		c.Tiers = append(c.Tiers, api.Tier{Upto: upto, Rate: rate()})
	}
	c.Tiers = append(c.Tiers, api.Tier{Rate: rate()})
	for range r.Intn(7) {
		kind, n := 1+r.Intn(4), pick(r, 0, 1, r.Intn(150000), api.MaxPercent)
		if kind != api.Percent {
			c.Adjusts = append(c.Adjusts, api.Adjust{Kind: kind, N: pick(r, n, api.MaxAmount)})
		} else {
			// Seldom as great as may be: of most such plans there is no bound.
			c.Adjusts = append(c.Adjusts, api.Adjust{Kind: kind, N: pick(r, n%300000, n%200000, n%150000, n), Mode: r.Intn(4)})
		}
	}
	if r.Intn(50) == 0 {
		pick(r,
			func() { c.Meter = "none" },
			func() { c.Block = 0 },
			func() { c.Tiers = slices.Insert(c.Tiers, 0, api.Tier{}) },
			func() { c.Adjusts = slices.Repeat([]api.Adjust{{Kind: api.Add}}, 7) },
			func() { c.Adjusts = slices.Repeat([]api.Adjust{{Kind: api.Percent, N: api.MaxPercent}}, 6) },
		)()
	}
	return c
}

// randomPlan: a plan, of some days anywhere in the calendar.
func randomPlan(r *rand.Rand) api.Plan {
	from := pick(r, 0, 738885, lastDay, r.Intn(lastDay))
	to := min(lastDay, from+pick(r, 0, 1, r.Intn(400), 3999))
	p := api.Plan{Name: pick(r, "p", "other"), Currency: pick(r, "EUR", "c"), From: day(from), To: day(to), Line: r.Intn(99), Col: r.Intn(99)}
	names := []string{"a", "A", "_", "a1", "ab", "Z9", "z", "_0", "heat", "Max"}
	r.Shuffle(len(names), func(i, k int) { names[i], names[k] = names[k], names[i] })
	names = names[:1+r.Intn(4)]
	for _, name := range names {
		p.Meters = append(p.Meters, api.Meter{Name: name, Unit: pick(r, "kWh", name, "a"), Max: pick(r, 0, r.Intn(2000), api.MaxQuantity), Line: r.Intn(99), Col: r.Intn(99)})
	}
	for range r.Intn(9) {
		p.Fees = append(p.Fees, api.Fee{Amount: pick(r, 0, r.Intn(1000), api.MaxAmount), Window: randomWindow(r, from, to), Line: r.Intn(99), Col: r.Intn(99)})
	}
	for range r.Intn(9) {
		p.Charges = append(p.Charges, randomCharge(r, names, randomWindow(r, from, to)))
	}
	return p
}

// numbers: where all the numbers of a core stand.
func numbers(c *api.Core) []*int {
	list := []*int{&c.From, &c.To}
	for i := range c.Meters {
		m := &c.Meters[i]
		list = append(list, &m.Max, &m.Line, &m.Col)
	}
	for i := range c.Sums {
		s := &c.Sums[i]
		list = append(list, &s.Amount, &s.From, &s.To)
	}
	for i := range c.Parts {
		x := &c.Parts[i]
		list = append(list, &x.Meter, &x.From, &x.To, &x.Allowance, &x.Block, &x.Kind, &x.Mode)
		for k := range x.Tiers {
			list = append(list, &x.Tiers[k].Upto, &x.Tiers[k].Rate)
		}
		for k := range x.Adjusts {
			list = append(list, &x.Adjusts[k].Kind, &x.Adjusts[k].N, &x.Adjusts[k].Mode)
		}
	}
	return list
}

// ends: numbers at which something begins, or ends; and those about them.
func ends(c api.Core) []int {
	list := []int{math.MinInt, math.MinInt + 1, math.MaxInt, math.MaxInt - 1, 1 << 32, -1 << 32}
	for _, n := range []int{0, 1, 2, 3, 4, 8, 2000, 4000, 1e6, 1e8, 1e12, lastDay, c.From, c.To, c.From + 3999, c.To - 3999, c.From + 4000} {
		list = append(list, n-1, n, n+1)
	}
	return list
}

// changed: all of a core and its lists, spare room included, as a text.
func changed(c api.Core) string {
	s := fmt.Sprintf("%+v %+v %+v %+v", c, c.Meters[:cap(c.Meters)], c.Sums[:cap(c.Sums)], c.Parts[:cap(c.Parts)])
	for _, x := range c.Parts {
		s += fmt.Sprintf(" %+v %+v", x.Tiers[:cap(x.Tiers)], x.Adjusts[:cap(x.Adjusts)])
	}
	return s
}
