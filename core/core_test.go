package core_test

import (
	"fmt"
	"math"
	"math/rand"
	"slices"
	"strings"
	"sync"
	"testing"

	"poundage/api"
	"poundage/check"
	"poundage/core"
	"poundage/parse"
	"poundage/show"
)

// head: what stands ahead of the items of a plan: a line, and a meter's line.
const head = "plan p currency c; horizon 2024-01-01 2024-12-31;\nmeter m unit l max 100;\n"

// bare: what a charge has at least.
const bare = "graduated { rest rate 1; } round floor;"

// first, last: the days of head's horizon.
const (
	first = 738885
	last  = 739250
)

// full: a core that can be, and has as many of everything as may be.
func full() api.Core {
	c := api.Core{Currency: "EUR", From: 1000, To: 2000}
	for i, name := range []string{"B", "_", "a", "ab"} {
		c.Meters = append(c.Meters, api.Meter{Name: name, Unit: "u", Max: 100 + i})
	}
	for i := range 8 {
		c.Sums = append(c.Sums, api.Sum{Amount: 10 + i, From: 1100 + 10*i, To: 1900 - 10*i})
		x := api.Part{Meter: i % 4, From: 1200 + 10*i, To: 1800 - 10*i, Allowance: 5 + i, Block: 3 + i, Kind: 1 + i%2, Mode: i % 4}
		for k := range 7 {
			x.Tiers = append(x.Tiers, api.Tier{Upto: 10 * (k + 1), Rate: 100 + k})
		}
		x.Tiers = append(x.Tiers, api.Tier{Rate: 7})
		for k := range 6 {
			a := api.Adjust{Kind: 1 + (i+k)%4, N: 50 + k}
			if a.Kind == api.Percent {
				a.Mode = k % 4
			}
			x.Adjusts = append(x.Adjusts, a)
		}
		c.Parts = append(c.Parts, x)
	}
	return c
}

// P10.1: the core of a text told ahead, in all that it has.
func TestWhole(t *testing.T) {
	const s = "# all\nplan p currency EUR; horizon 2023-12-31 2024-03-01;\n" +
		"meter z unit l max 9; meter Z unit m max 0; meter _ unit a max 2000; meter a unit z max 8;\n" +
		"charge a from 2024-02-29 to 2024-02-29 { allowance 1000000; block 1000000; graduated { upto 1 rate 0.000001; upto 1000000 rate 1000000; rest rate 0; } round halfeven; add 1; percent 0.001 halfup; percent 100000 floor; minimum 0; cap 1000000000000; }\n" +
		"fee 1000000000000 from 2023-12-31 to 2024-03-01; fee 0 from 2024-01-01 to 2024-01-01; fee 7;\n" +
		"charge z { volume { rest rate 2.5; } round ceil; } charge Z from 2024-01-31 to 2024-02-01 { " + bare + " } charge _ { block 2; " + bare + " cap 0; } charge z { " + bare + " }"
	want := api.Core{Currency: "EUR", From: first - 1, To: 738945,
		Meters: []api.Meter{{Name: "Z", Unit: "m"}, {Name: "_", Unit: "a", Max: 2000}, {Name: "a", Unit: "z", Max: 8}, {Name: "z", Unit: "l", Max: 9}},
		Sums:   []api.Sum{{Amount: 1000000000000, From: first - 1, To: 738945}, {From: first, To: first}, {Amount: 7, From: first - 1, To: 738945}},
		Parts: []api.Part{
			{Meter: 2, From: 738944, To: 738944, Allowance: 1000000, Block: 1000000, Kind: 1, Mode: 3,
				Tiers:   []api.Tier{{Upto: 1, Rate: 1}, {Upto: 1000000, Rate: 1000000000000}, {}},
				Adjusts: []api.Adjust{{Kind: 4, N: 1}, {Kind: 1, N: 1, Mode: 2}, {Kind: 1, N: 100000000}, {Kind: 3}, {Kind: 2, N: 1000000000000}}},
			{Meter: 3, From: first - 1, To: 738945, Block: 1, Kind: 2, Mode: 1, Tiers: []api.Tier{{Rate: 2500000}}},
			{Meter: 0, From: 738915, To: 738916, Block: 1, Kind: 1, Tiers: []api.Tier{{Rate: 1000000}}},
			{Meter: 1, From: first - 1, To: 738945, Block: 2, Kind: 1, Tiers: []api.Tier{{Rate: 1000000}}, Adjusts: []api.Adjust{{Kind: 2}}},
			{Meter: 3, From: first - 1, To: 738945, Block: 1, Kind: 1, Tiers: []api.Tier{{Rate: 1000000}}},
		},
	}
	if c, e := core.Read(s); e != (api.Fault{}) || !same(c, want) {
		t.Errorf("%+v, %v", c, e)
	}
	if !core.Good(want) {
		t.Error("it can't be")
	}
	p, _ := parse.Parse(s)
	hold(t, p)
}

// P10.1: plans with nothing, with a single thing, and with days at the calendar's ends.
func TestLeast(t *testing.T) {
	for s, want := range map[string]api.Core{
		"plan p currency c; horizon 0001-01-01 0001-01-01;":                                      {Currency: "c"},
		"plan p currency c; horizon 9999-12-31 9999-12-31;":                                      {Currency: "c", From: lastDay, To: lastDay},
		"plan c currency p; horizon 2024-01-01 2024-12-31;":                                      {Currency: "p", From: first, To: last},
		"plan p currency c; horizon 2024-01-01 2034-12-13;":                                      {Currency: "c", From: first, To: first + 3999},
		"plan p currency c; horizon 0001-01-01 0001-01-02; fee 0;":                               {Currency: "c", To: 1, Sums: []api.Sum{{To: 1}}},
		"plan p currency c; horizon 0001-01-01 0001-01-02; fee 3 from 0001-01-02 to 0001-01-02;": {Currency: "c", To: 1, Sums: []api.Sum{{Amount: 3, From: 1, To: 1}}},
		head: {Currency: "c", From: first, To: last, Meters: []api.Meter{{Name: "m", Unit: "l", Max: 100}}},
		"plan p currency c; horizon 9999-12-30 9999-12-31; meter m unit m max 0; charge m from 9999-12-31 to 9999-12-31 { " + bare + " }": {
			Currency: "c", From: lastDay - 1, To: lastDay, Meters: []api.Meter{{Name: "m", Unit: "m"}},
			Parts: []api.Part{{From: lastDay, To: lastDay, Block: 1, Kind: 1, Tiers: []api.Tier{{Rate: 1000000}}}}},
	} {
		c, e := core.Read(s)
		if e != (api.Fault{}) || !same(c, want) || !core.Good(c) {
			t.Errorf("%s: %+v, %v", s, c, e)
		}
		p, _ := parse.Parse(s)
		hold(t, p)
	}
}

// P10.1: meters stand by their names, byte by byte, in whatever order they were told; each part keeps its own.
func TestMeters(t *testing.T) {
	rising := []string{"A", "B9", "Ba", "Z", "_", "_0", "__", "a", "a0", "aB", "a_", "aa", "b"}
	r := rand.New(rand.NewSource(101))
	for range 2000 {
		r.Shuffle(len(rising), func(i, k int) { rising[i], rising[k] = rising[k], rising[i] })
		told := rising[:1+r.Intn(4)]
		s, rows := head[:strings.Index(head, "meter")], slices.Clone(told)
		for i, name := range told {
			s += fmt.Sprintf("meter %s unit u%d max %d; charge %s { block %d; %s }", name, i, 10+i, told[len(told)-1-i], 1+i, bare)
		}
		slices.Sort(rows)
		c, e := core.Read(s)
		if e != (api.Fault{}) || len(c.Meters) != len(told) || len(c.Parts) != len(told) || !core.Good(c) {
			t.Fatalf("%s: %+v, %v", s, c, e)
		}
		for i, name := range told {
			at := slices.Index(rows, name)
			if c.Meters[at] != (api.Meter{Name: name, Unit: fmt.Sprint("u", i), Max: 10 + i}) || c.Parts[len(told)-1-i].Meter != at || c.Parts[i].Block != 1+i {
				t.Fatalf("%s: %+v", s, c)
			}
		}
	}
}

// P10.1: a text's fault is that of its letters, its tokens, or of what it means; then there is no core.
func TestFaults(t *testing.T) {
	fault := func(err api.Errno, line, col int) api.Fault { return api.Fault{Err: err, Line: line, Col: col} }
	for s, want := range map[string]api.Fault{
		"":                                            fault(api.ErrSyntax, 1, 1),
		"\n plan":                                     fault(api.ErrSyntax, 2, 6),
		"plan p currency c;":                          fault(api.ErrSyntax, 1, 19),
		head + "fee 1;\n  ?":                          fault(api.ErrLex, 4, 3),
		head + "fee;\n  ?":                            fault(api.ErrLex, 4, 3),
		head + "fee 1.5;":                             fault(api.ErrSyntax, 3, 5),
		head + "fee 1000000000001;":                   fault(api.ErrLimit, 3, 5),
		head + "meter n unit l max 2001;":             fault(api.ErrLimit, 3, 20),
		head + strings.Repeat(" ", 1<<13):             fault(api.ErrLimit, 1, 1),
		head + " meter m unit l max 100;":             fault(api.ErrType, 3, 2),
		head + strings.Repeat("fee 1;\n", 9):          fault(api.ErrLimit, 11, 1),
		head + "fee 1 from 2024-01-02 to 2024-01-01;": fault(api.ErrType, 3, 1),
		head + "fee 1 from 2023-12-31 to 2024-01-01;": fault(api.ErrType, 3, 1),
		head + "fee 1 from 2024-01-02 to 2024-02-30;": fault(api.ErrLex, 3, 26),
		head + "\tcharge n { " + bare + " }":          fault(api.ErrType, 3, 2),
		head + "\tcharge m { block 0; " + bare + " }": fault(api.ErrType, 3, 2),
		head + "charge m { volume { upto 5 rate 1; upto 5 rate 1; rest rate 1; } round floor; }":                      fault(api.ErrType, 3, 1),
		head + "charge m { " + bare + strings.Repeat("cap 1;", 7) + " }":                                              fault(api.ErrLimit, 3, 1),
		"\n" + head + "charge m { " + bare + " add 1000000000000;" + strings.Repeat("percent 100000 ceil;", 5) + " }": fault(api.ErrLimit, 2, 1),
		" plan p currency c; horizon 2024-01-02 2024-01-01;":                                                          fault(api.ErrType, 1, 2),
		"plan p currency c; horizon 2024-01-01 2034-12-14;":                                                           fault(api.ErrLimit, 1, 1),
	} {
		c, got := core.Read(s)
		if got != want || !same(c, api.Core{}) {
			t.Errorf("%s: %+v, %v, not %v", s, c, got, want)
		}
		if p, e := parse.Parse(s); e == (api.Fault{}) {
			if c, got := core.Make(p); got != want || got != check.Plan(p) || !same(c, api.Core{}) {
				t.Errorf("%s: made, %+v, %v, not %v", s, c, got, want)
			}
		}
	}
}

// P10.1, P10.2: plans made at random, held against the second telling, and their texts.
func TestRandom(t *testing.T) {
	r := rand.New(rand.NewSource(10))
	found := map[api.Errno]int{}
	for range 6000 {
		_, e := hold(t, randomPlan(r))
		found[e.Err]++
	}
	if found[api.OK] < 2000 || found[api.ErrType] < 100 || found[api.ErrLimit] < 100 {
		t.Errorf("%v", found)
	}
}

// P10.2: a plan with another name, and its text laid out otherwise, have the same core.
func TestNames(t *testing.T) {
	r := rand.New(rand.NewSource(102))
	for range 1500 {
		p := randomPlan(r)
		c, e := core.Make(p)
		p.Name += "_2"
		if d, f := core.Make(p); f != e || !same(c, d) {
			t.Fatalf("%s: %+v, %v, not %+v, %v", show.Plan(p), d, f, c, e)
		}
		s := show.Plan(p)
		s = strings.ReplaceAll(strings.ReplaceAll(s, "\t", " "), ";\n", pick(r, ";", ";# x ;\n", "\n;\r\n"))
		if len(s) > api.MaxText {
			continue
		}
		if d, f := core.Read(s); f.Err != e.Err || !same(c, d) {
			t.Fatalf("%s: %+v, %v, not %+v, %v", s, d, f, c, e)
		}
	}
}

// edge: a number of a core, between which bounds it has to be.
type edge struct {
	name        string
	at          func(c *api.Core) *int
	least, most int
}

// edges: the numbers of full, each first, middle and last one of its lists.
func edges() []edge {
	list := []edge{
		{"from", func(c *api.Core) *int { return &c.From }, 0, 1100},
		{"to", func(c *api.Core) *int { return &c.To }, 1900, 1000 + 3999},
	}
	for i := range 4 {
		list = append(list,
			edge{"max", func(c *api.Core) *int { return &c.Meters[i].Max }, 0, 2000},
			edge{"line", func(c *api.Core) *int { return &c.Meters[i].Line }, 0, 0},
			edge{"col", func(c *api.Core) *int { return &c.Meters[i].Col }, 0, 0})
	}
	for i := range 8 {
		list = append(list,
			edge{"amount", func(c *api.Core) *int { return &c.Sums[i].Amount }, 0, 1000000000000},
			edge{"a sum's from", func(c *api.Core) *int { return &c.Sums[i].From }, 1000, 1900 - 10*i},
			edge{"a sum's to", func(c *api.Core) *int { return &c.Sums[i].To }, 1100 + 10*i, 2000},
			edge{"a part's from", func(c *api.Core) *int { return &c.Parts[i].From }, 1000, 1800 - 10*i},
			edge{"a part's to", func(c *api.Core) *int { return &c.Parts[i].To }, 1200 + 10*i, 2000},
			edge{"meter", func(c *api.Core) *int { return &c.Parts[i].Meter }, 0, 3},
			edge{"allowance", func(c *api.Core) *int { return &c.Parts[i].Allowance }, 0, 1000000},
			edge{"block", func(c *api.Core) *int { return &c.Parts[i].Block }, 1, 1000000},
			edge{"kind", func(c *api.Core) *int { return &c.Parts[i].Kind }, 1, 2},
			edge{"mode", func(c *api.Core) *int { return &c.Parts[i].Mode }, 0, 3})
		for k := range 8 {
			upto := edge{"upto", func(c *api.Core) *int { return &c.Parts[i].Tiers[k].Upto }, 10*k + 1, 10*k + 19}
			switch k {
			case 6:
				upto.most = 1000000
			case 7:
				upto.least, upto.most = 0, 0
			}
			list = append(list, upto, edge{"rate", func(c *api.Core) *int { return &c.Parts[i].Tiers[k].Rate }, 0, 1000000000000})
		}
		for k := range 6 {
			n := edge{"n", func(c *api.Core) *int { return &c.Parts[i].Adjusts[k].N }, 0, 1000000000000}
			mode := edge{"an adjustment's mode", func(c *api.Core) *int { return &c.Parts[i].Adjusts[k].Mode }, 0, 0}
			if (i+k)%4 == 0 {
				n.most, mode.most = 100000000, 3
			}
			list = append(list, n, mode)
		}
	}
	return list
}

// P10.1: each number of a core, at its bounds, and behind them.
func TestEdges(t *testing.T) {
	if !core.Good(full()) {
		t.Fatal("full can't be")
	}
	for _, e := range edges() {
		for _, n := range []int{math.MinInt, e.least - 2, e.least - 1, e.least, e.most, e.most + 1, e.most + 2, e.least - 1<<32, e.most + 1<<32, math.MaxInt} {
			c := full()
			*e.at(&c) = n
			if got := core.Good(c); got != (n >= e.least && n <= e.most) || got != can(c) {
				t.Errorf("%s %d: %v", e.name, n, got)
			}
		}
	}
}

// P10.1: how many there may be of each, and ways in which what stands side by side doesn't go together.
func TestRows(t *testing.T) {
	type way struct {
		name string
		turn func(c *api.Core)
		want bool
	}
	list := []way{
		{"no meters, and a part", func(c *api.Core) { c.Meters, c.Parts = nil, c.Parts[:1] }, false},
		{"nothing", func(c *api.Core) { c.Meters, c.Parts, c.Sums, c.Currency = nil, nil, nil, "" }, true},
		{"a fifth meter", func(c *api.Core) { c.Meters = append(c.Meters, api.Meter{Name: "b"}) }, false},
		{"a ninth sum", func(c *api.Core) { c.Sums = append(c.Sums, c.Sums[0]) }, false},
		{"a ninth part", func(c *api.Core) { c.Parts = append(c.Parts, c.Parts[0]) }, false},
		{"eight times the same sum", func(c *api.Core) { c.Sums = slices.Repeat(c.Sums[:1], 8) }, true},
		{"eight times the same part", func(c *api.Core) { c.Parts = slices.Repeat(c.Parts[:1], 8) }, true},
		{"any units, and a currency", func(c *api.Core) { c.Meters[0].Unit, c.Meters[1].Unit, c.Currency = "", "\xff ;", "no name" }, true},
		{"any names", func(c *api.Core) {
			for i, name := range []string{"", "\x00", "1 ;", "\xff"} {
				c.Meters[i].Name = name
			}
		}, true},
	}
	for n := range 5 {
		list = append(list, way{fmt.Sprint(n, " meters"), func(c *api.Core) {
			c.Meters = c.Meters[:n]
			c.Parts = slices.DeleteFunc(c.Parts, func(x api.Part) bool { return x.Meter >= n })
		}, true})
	}
	for i := range 4 {
		list = append(list,
			way{"a name again", func(c *api.Core) { c.Meters[i].Name = c.Meters[(i+1)%4].Name }, false},
			way{"names turned round", func(c *api.Core) { k := (i + 1) % 4; c.Meters[i], c.Meters[k] = c.Meters[k], c.Meters[i] }, false},
			way{"a name without letters", func(c *api.Core) { c.Meters[i].Name = "" }, i == 0},
			way{"a last name", func(c *api.Core) { c.Meters[i].Name = "z" }, i == 3})
	}
	for i := range 8 {
		list = append(list,
			way{"some sums", func(c *api.Core) { c.Sums = c.Sums[:i] }, true},
			way{"some parts", func(c *api.Core) { c.Parts = c.Parts[:i] }, true},
			way{"an empty sum", func(c *api.Core) { c.Sums[i] = api.Sum{} }, false},
			way{"an empty part", func(c *api.Core) { c.Parts[i] = api.Part{} }, false},
			way{"no tiers", func(c *api.Core) { c.Parts[i].Tiers = nil }, false},
			way{"one tier without an end", func(c *api.Core) { c.Parts[i].Tiers = make([]api.Tier, 1) }, true},
			way{"one tier with an end", func(c *api.Core) { c.Parts[i].Tiers = []api.Tier{{Upto: 1}} }, false},
			way{"the last tiers", func(c *api.Core) { c.Parts[i].Tiers = c.Parts[i].Tiers[i:] }, true},
			way{"tiers without the last one", func(c *api.Core) { c.Parts[i].Tiers = c.Parts[i].Tiers[:7] }, false},
			way{"nine tiers", func(c *api.Core) {
				c.Parts[i].Tiers = slices.Insert(c.Parts[i].Tiers, 0, api.Tier{Upto: 1})
			}, false},
			way{"two tiers as far", func(c *api.Core) { c.Parts[i].Tiers[3].Upto = c.Parts[i].Tiers[4].Upto }, false},
			way{"two last tiers", func(c *api.Core) { c.Parts[i].Tiers[6].Upto = 0 }, false},
			way{"tiers turned round", func(c *api.Core) { slices.Reverse(c.Parts[i].Tiers[:7]) }, false},
			way{"no adjustments", func(c *api.Core) { c.Parts[i].Adjusts = nil }, true},
			way{"some adjustments", func(c *api.Core) { c.Parts[i].Adjusts = c.Parts[i].Adjusts[:i%7] }, true},
			way{"a seventh adjustment", func(c *api.Core) { c.Parts[i].Adjusts = append(c.Parts[i].Adjusts, api.Adjust{Kind: 2}) }, false})
	}
	for _, w := range list {
		c := full()
		w.turn(&c)
		if got := core.Good(c); got != w.want || got != can(c) {
			t.Errorf("%s: %v: %+v", w.name, got, c)
		}
	}
}

// P10.1: each kind of adjustment, with its numbers and modes at their bounds.
func TestAdjusts(t *testing.T) {
	for kind := -1; kind <= 6; kind++ {
		for mode := -2; mode <= 5; mode++ {
			for _, n := range []int{math.MinInt, -1, 0, 1, 1e8 - 1, 1e8, 1e8 + 1, 1e12 - 1, 1e12, 1e12 + 1, math.MaxInt} {
				c := full()
				c.Parts[5].Adjusts[3] = api.Adjust{Kind: kind, N: n, Mode: mode}
				want := n >= 0 && (kind == 1 && n <= 1e8 && mode >= 0 && mode <= 3 || kind >= 2 && kind <= 4 && n <= 1e12 && mode == 0)
				if got := core.Good(c); got != want || got != can(c) {
					t.Errorf("%+v: %v", c.Parts[5].Adjusts[3], got)
				}
			}
		}
	}
}

// P10.1: horizons about the calendar's ends, about the most days, turned round, and far away.
func TestHorizon(t *testing.T) {
	list := []int{math.MinInt, math.MinInt + 1, -4000, -3999, -1, 0, 1, 3998, 3999, 4000, 4001, 738885, lastDay - 4000, lastDay - 3999, lastDay - 3998, lastDay - 1, lastDay, lastDay + 1, lastDay + 3999, math.MaxInt - 3999, math.MaxInt}
	for _, from := range list {
		for _, to := range list {
			c := api.Core{From: from, To: to}
			want := 0 <= from && from <= to && to <= lastDay && to-from <= 3999
			if got := core.Good(c); got != want || got != can(c) {
				t.Errorf("%d to %d: %v", from, to, got)
			}
		}
	}
}

// P10.1: a core can be, however great the numbers are to which it comes.
func TestWithoutBound(t *testing.T) {
	c := full()
	for i := range c.Parts {
		c.Parts[i].Adjusts = slices.Repeat([]api.Adjust{{Kind: api.Add, N: api.MaxAmount}, {Kind: api.Percent, N: api.MaxPercent}}, 3)
	}
	if !core.Good(c) {
		t.Error("it can't be")
	}
}

// P10.1: cores made of plans at random, some numbers of which are others, held against the second telling.
func TestSpoilt(t *testing.T) {
	r := rand.New(rand.NewSource(103))
	found := map[bool]int{}
	for range 1000 {
		p := randomPlan(r)
		if check.Plan(p) != (api.Fault{}) {
			continue
		}
		for range 20 {
			c, _ := core.Make(p)
			all, others := numbers(&c), ends(c)
			for range 1 + r.Intn(3) {
				*pick(r, all...) = pick(r, others...)
			}
			if len(c.Meters) > 1 && r.Intn(20) == 0 {
				pick(r, &c.Meters[0], &c.Meters[1]).Name = pick(r, "", "a", c.Meters[0].Name, c.Meters[1].Name)
			}
			before := changed(c)
			got := core.Good(c)
			if got != can(c) {
				t.Fatalf("%v: %+v", got, c)
			}
			if changed(c) != before {
				t.Fatalf("changed: %s, not %s", changed(c), before)
			}
			found[got]++
		}
	}
	if found[true] < 1000 || found[false] < 1000 {
		t.Errorf("%v", found)
	}
}

// roomy: a plan whose lists have spare room, and whose charges share their lists.
func roomy() api.Plan {
	p, _ := parse.Parse(head + "meter a unit l max 5; fee 1; fee 2 from 2024-01-01 to 2024-01-05; charge m { volume { upto 3 rate 1; rest rate 2; } round ceil; add 3; cap 5; }")
	p.Meters = append(slices.Grow(p.Meters, 9), api.Meter{Name: "spare"})[:len(p.Meters)]
	p.Fees = append(slices.Grow(p.Fees, 9), api.Fee{Amount: 7})[:len(p.Fees)]
	x := &p.Charges[0]
	x.Tiers = append(slices.Grow(x.Tiers, 9), api.Tier{Upto: 7})[:len(x.Tiers)]
	x.Adjusts = append(slices.Grow(x.Adjusts, 9), api.Adjust{N: 7})[:len(x.Adjusts)]
	p.Charges = append(slices.Grow(p.Charges, 9), *x, *x, api.Charge{Meter: "spare"})[:len(p.Charges)+2]
	return p
}

// told: all of a plan and its lists, spare room included, as a text.
func told(p api.Plan) string {
	s := fmt.Sprintf("%+v %+v %+v %+v", p, p.Meters[:cap(p.Meters)], p.Fees[:cap(p.Fees)], p.Charges[:cap(p.Charges)])
	for _, c := range p.Charges {
		s += fmt.Sprintf(" %+v %+v", c.Tiers[:cap(c.Tiers)], c.Adjusts[:cap(c.Adjusts)])
	}
	return s
}

// What is handed in isn't changed; a core's lists are new: what is written into one, and into its spare room, is seen nowhere else.
func TestNew(t *testing.T) {
	p, want, all := roomy(), told(roomy()), made(roomy())
	other, _ := core.Make(p)
	before := changed(other)
	for i := range all.Parts {
		c, e := core.Make(p)
		if e != (api.Fault{}) || !same(c, all) {
			t.Fatalf("%+v, %v", c, e)
		}
		overwrite(c.Parts[i].Tiers)
		overwrite(c.Parts[i].Adjusts)
		c.Parts[i] = all.Parts[i]
		if !same(c, all) {
			t.Errorf("part %d is seen elsewhere: %+v", i, c)
		}
		overwrite(c.Parts)
		overwrite(c.Meters)
		overwrite(c.Sums)
	}
	if told(p) != want {
		t.Errorf("%s\nnot\n%s", told(p), want)
	}
	if changed(other) != before {
		t.Errorf("%s\nnot\n%s", changed(other), before)
	}
}

// overwrite: all of a list is empty, spare room included.
func overwrite[T any](list []T) { clear(list[:cap(list)]) }

// A core keeps nothing of a plan: what becomes of the plan isn't seen in it.
func TestKept(t *testing.T) {
	p := roomy()
	c, _ := core.Make(p)
	before := changed(c)
	for _, x := range p.Charges {
		overwrite(x.Tiers)
		overwrite(x.Adjusts)
	}
	overwrite(p.Charges)
	overwrite(p.Meters)
	overwrite(p.Fees)
	if changed(c) != before {
		t.Errorf("%s\nnot\n%s", changed(c), before)
	}
}

// Of plans that no text has nothing is promised, but the calls end; so does Good of any core.
func TestOthers(t *testing.T) {
	wild := api.Charge{Window: api.Window{Has: true}, Allowance: math.MinInt, Block: math.MinInt, Kind: math.MaxInt, Mode: -1}
	for _, k := range []int{math.MinInt, -1, 0, 5, math.MaxInt} {
		wild.Tiers = append(wild.Tiers, api.Tier{Upto: k, Rate: k})
		wild.Adjusts = append(wild.Adjusts, api.Adjust{Kind: k, N: k, Mode: k})
	}
	for _, x := range []api.Charge{{}, {Block: 1}, {Block: 1, Adjusts: []api.Adjust{{}}}, {Meter: "m", Block: -1}, wild} {
		for _, most := range []int{math.MinInt, -1, 0, math.MaxInt} {
			p := api.Plan{Meters: []api.Meter{{Max: most}}, Fees: []api.Fee{{Amount: most}}, Charges: []api.Charge{x}}
			c, e := core.Make(p)
			if d, f := core.Make(p); e != f || !same(c, d) || e != (api.Fault{}) && !same(c, api.Core{}) {
				t.Errorf("%+v: %+v, %v, and %+v, %v", p, c, e, d, f)
			}
		}
	}
	long := api.Core{Meters: make([]api.Meter, 1<<16), Sums: make([]api.Sum, 1<<16), Parts: make([]api.Part, 1<<16)}
	for _, c := range []api.Core{long, {Sums: long.Sums}, {Parts: long.Parts}, {Parts: []api.Part{{Meter: math.MinInt}}}, {Parts: []api.Part{{Tiers: make([]api.Tier, 1<<16)}}}} {
		if core.Good(c) {
			t.Error("it can be")
		}
	}
	if !core.Good(api.Core{}) {
		t.Error("the first day alone can't be")
	}
}

// An answer hangs on the argument alone: neither on what was made ahead, nor on who else makes one.
func TestAtOnce(t *testing.T) {
	p := roomy()
	want := made(p)
	bad := full()
	bad.Parts[7].Adjusts[5].N = -1
	var all sync.WaitGroup
	for range 8 {
		all.Go(func() {
			for range 200 {
				if c, e := core.Make(p); e != (api.Fault{}) || !same(c, want) || !core.Good(c) || core.Good(bad) {
					t.Error("another core")
					return
				}
				if c, e := core.Read(head + "fee;"); e != (api.Fault{Err: api.ErrSyntax, Line: 3, Col: 4}) || !same(c, api.Core{}) {
					t.Error("another fault")
					return
				}
			}
		})
	}
	all.Wait()
}
