package check_test

import (
	"fmt"
	"math"
	"math/rand"
	"slices"
	"strings"
	"sync"
	"testing"

	"poundage/api"
	"poundage/check"
	"poundage/date"
	"poundage/parse"
	"poundage/show"
)

// head: what stands ahead of the items of a plan: a line, and a meter's line.
const head = "plan p currency c; horizon 2024-01-01 2024-12-31;\nmeter m unit l max 100;\n"

// bare: what a charge has at least, with a rate of 1.
const bare = "graduated { rest rate 1; } round floor;"

// day: a day of 2024.
func day(month, day int) api.Date { return api.Date{Year: 2024, Month: month, Day: day} }

// window: a window from a day to a day.
func window(from, to api.Date) api.Window { return api.Window{Has: true, From: from, To: to} }

// parsed: the plan of a text.
func parsed(t *testing.T, s string) api.Plan {
	t.Helper()
	p, e := parse.Parse(s)
	if e != (api.Fault{}) {
		t.Fatalf("%s: %v", s, e)
	}
	return p
}

// full: a plan that has as many of everything as may be, each at a place of its own, with which nothing is wrong.
func full() api.Plan {
	p := api.Plan{Name: "p", Currency: "c", From: day(1, 1), To: day(12, 31), Line: 1, Col: 7}
	for i, name := range []string{"m", "a", "z", "k"} {
		p.Meters = append(p.Meters, api.Meter{Name: name, Unit: "u", Max: 100 * i, Line: 10 + i, Col: 100 + i})
	}
	for i := range 8 {
		p.Fees = append(p.Fees, api.Fee{Amount: i, Window: window(day(1+i, 1), day(5+i, 28)), Line: 20 + i, Col: 200 + i})
		c := api.Charge{Meter: p.Meters[i%4].Name, Window: window(day(1, 1), day(12, 31)), Allowance: i, Block: 1 + i, Kind: 1 + i%2, Mode: i % 4, Line: 30 + i, Col: 300 + i}
		for k := range 7 {
			c.Tiers = append(c.Tiers, api.Tier{Upto: 1 + k*k, Rate: 1000000 * (k % 3)})
		}
		c.Tiers = append(c.Tiers, api.Tier{Rate: 1500000})
		for k := range 6 {
			c.Adjusts = append(c.Adjusts, api.Adjust{Kind: 2 + k%3, N: 1000 - k})
		}
		p.Charges = append(p.Charges, c)
	}
	return p
}

// spoil: a way in which full is spoilt, and what is wrong then.
type spoil struct {
	name string
	turn func(p *api.Plan)
	want api.Fault
}

// spoils: ways in which full is spoilt, in the order in which they count. Each two of them can be at once.
func spoils() []spoil {
	return slices.Concat([]spoil{
		{"to ahead of from", func(p *api.Plan) { p.To = api.Date{Year: 1999, Month: 12, Day: 31} }, api.Fault{Err: 5, Line: 1, Col: 7}},
		{"too many days", func(p *api.Plan) { p.From = api.Date{Year: 2000, Month: 1, Day: 1} }, api.Fault{Err: 6, Line: 1, Col: 7}},
		{"the second meter again", func(p *api.Plan) { p.Meters[2].Name = "a" }, api.Fault{Err: 5, Line: 12, Col: 102}},
		{"the first meter again", func(p *api.Plan) { p.Meters[3].Name = "m" }, api.Fault{Err: 5, Line: 13, Col: 103}},
		{"a fifth meter", func(p *api.Plan) {
			p.Meters = append(p.Meters[:4:4], api.Meter{Name: "m", Line: 14, Col: 104}, api.Meter{Name: "m", Line: 15})
		}, api.Fault{Err: 6, Line: 14, Col: 104}},
		{"a fee's window, turned round", func(p *api.Plan) { p.Fees[0].Window = window(day(2, 2), day(2, 1)) }, api.Fault{Err: 5, Line: 20, Col: 200}},
		{"a fee's window, too early", func(p *api.Plan) { p.Fees[6].Window.From.Year = 1999 }, api.Fault{Err: 5, Line: 26, Col: 206}},
		{"a fee's window, too late", func(p *api.Plan) { p.Fees[7].Window.To.Year = 2025 }, api.Fault{Err: 5, Line: 27, Col: 207}},
		{"a ninth fee", func(p *api.Plan) {
			p.Fees = append(p.Fees[:8:8], api.Fee{Window: window(day(3, 1), day(2, 1)), Line: 28, Col: 208}, api.Fee{Line: 29})
		}, api.Fault{Err: 6, Line: 28, Col: 208}},
	}, chargeSpoils(), []spoil{
		{"a ninth charge", func(p *api.Plan) {
			p.Charges = append(p.Charges[:8:8], api.Charge{Meter: "none", Tiers: make([]api.Tier, 1), Line: 38, Col: 308}, api.Charge{Tiers: make([]api.Tier, 9), Line: 39})
		}, api.Fault{Err: 6, Line: 38, Col: 308}},
		{"no bound", func(p *api.Plan) {
			c := &p.Charges[7]
			c.Adjusts = slices.Repeat([]api.Adjust{{Kind: 1, N: api.MaxPercent}}, len(c.Adjusts))
		}, api.Fault{Err: 6, Line: 1, Col: 7}},
	})
}

// chargeSpoils: those of charges; each two that may be wrong with a charge are so with one of them.
func chargeSpoils() []spoil {
	var list []spoil
	add := func(at int, name string, err api.Errno, turn func(c *api.Charge)) {
		list = append(list, spoil{name + " in charge " + fmt.Sprint(at), func(p *api.Plan) { turn(&p.Charges[at]) }, api.Fault{Err: err, Line: 30 + at, Col: 300 + at}})
	}
	for at, first := range []func(c *api.Charge){
		func(c *api.Charge) { c.Meter = "u" },
		func(c *api.Charge) { c.Meter = "" },
		func(c *api.Charge) { c.Window.From, c.Window.To = day(2, 2), day(2, 1) },
		func(c *api.Charge) { c.Window.From = api.Date{Year: 1999, Month: 12, Day: 31} },
		func(c *api.Charge) { c.Window.To = api.Date{Year: 2025, Month: 1, Day: 1} },
		func(c *api.Charge) { c.Block = 0 },
		func(c *api.Charge) { c.Meter, c.Block = "_", 0 },
		func(c *api.Charge) { c.Window = window(day(2, 29), day(2, 28)) },
	} {
		add(at, "meter, window or block", 5, first)
		// The ninth one makes the eighth one, whose upto is 0, one that isn't the last.
		add(at, "nine tiers", 6, func(c *api.Charge) { c.Tiers = append(c.Tiers[:8:8], api.Tier{}) })
		add(at, "upto", 5, func(c *api.Charge) { c.Tiers[at%7].Upto = 0 })
		add(at, "seven adjustments", 6, func(c *api.Charge) { c.Adjusts = append(c.Adjusts[:6:6], api.Adjust{Kind: 4}) })
	}
	return list
}

// P9.1: each single thing that can be wrong; and of each two of them the first one counts, in the document's order.
func TestFirst(t *testing.T) {
	if e := hold(t, full()); e != (api.Fault{}) {
		t.Fatalf("%v", e)
	}
	list := spoils()
	for i, a := range list {
		for _, b := range list[i:] {
			p := full()
			b.turn(&p)
			a.turn(&p)
			if e := hold(t, p); e != a.want {
				t.Errorf("%s, and %s: %v, not %v", a.name, b.name, e, a.want)
			}
		}
	}
}

// P9.1: texts told ahead: what is wrong with them, and where, and with what that is as like it as can be nothing is.
func TestTexts(t *testing.T) {
	const tier = "upto %d rate 1; "
	charge := func(ahead, tiers, behind string) string {
		return head + " charge m { " + ahead + " volume { " + tiers + " rest rate 1; } round ceil; " + behind + " }"
	}
	row := func(form string, from, to int) string {
		s := ""
		for n := from; n <= to; n++ {
			s += strings.ReplaceAll(form, "%d", fmt.Sprint(n))
		}
		return s
	}
	wrong := func(line, col int) api.Fault { return api.Fault{Err: api.ErrType, Line: line, Col: col} }
	great := func(line, col int) api.Fault { return api.Fault{Err: api.ErrLimit, Line: line, Col: col} }
	fine := api.Fault{}
	for s, want := range map[string]api.Fault{
		"plan p currency c; horizon 2024-01-01 2024-01-01;":               fine,
		"\n  plan p currency c; horizon 2024-01-02 2024-01-01;":           wrong(2, 3),
		"plan p currency c; horizon 9999-12-31 0001-01-01; fee 1; fee 2;": wrong(1, 1),
		head + "meter M unit l max 1; meter l unit m max 1;":              fine,
		head + "meter p unit l max 1; meter c unit m max 1;":              fine,
		head + "meter a unit l max 1; meter m unit k max 1;":              wrong(3, 23),
		head + "fee 1; meter m unit l max 100;":                           wrong(3, 8),
		head + row("meter m%d unit l max 1; ", 2, 4):                      fine,
		head + row("meter m%d unit l max 1; ", 2, 6):                      great(3, 70),
		head + row("fee %d;", 1, 8):                                       fine,
		head + row("fee %d;", 1, 9):                                       great(3, 49),
		head + row("charge m { "+bare+" }\n", 1, 8):                       fine,
		head + row("charge m { "+bare+" }\n", 1, 10):                      great(11, 1),
		charge("", "", ""):                                                fine,
		charge("block 1;", "", ""):                                        fine,
		charge("block 0;", "", ""):                                        wrong(3, 2),
		charge("allowance 1000000;", "", ""):                              fine,
		charge("block 1000000;", "", ""):                                  fine,
		charge("", row(tier, 1, 7), ""):                                   fine,
		charge("", row(tier, 1, 8), ""):                                   great(3, 2),
		charge("", row(tier, 1, 20), ""):                                  great(3, 2),
		charge("", "upto 0 rate 1;", ""):                                  wrong(3, 2),
		charge("", "upto 1 rate 1;", ""):                                  fine,
		charge("", "upto 1000000 rate 1;", ""):                            fine,
		charge("", row(tier, 5, 5)+row(tier, 4, 4), ""):                   wrong(3, 2),
		charge("", row(tier, 5, 5)+row(tier, 5, 5), ""):                   wrong(3, 2),
		charge("", row(tier, 5, 5)+row(tier, 0, 0), ""):                   wrong(3, 2),
		charge("", row(tier, 5, 6), ""):                                   fine,
		charge("", "", row("add %d;", 1, 6)):                              fine,
		charge("", "", row("add %d;", 1, 7)):                              great(3, 2),
		charge("", "", row("cap %d;", 1, 30)):                             great(3, 2),
		head + "charge M { " + bare + " }":                                wrong(3, 1),
		head + "charge l { " + bare + " }":                                wrong(3, 1),
		head + "charge p { " + bare + " }":                                wrong(3, 1),
		// A meter may be told behind its charge.
		head + "charge x { " + bare + " } meter x unit l max 1;": fine,
	} {
		if got := hold(t, parsed(t, s)); got != want {
			t.Errorf("%s: %v, not %v", s, got, want)
		}
	}
}

// P9.1: horizons about the most days, with leap days and without, anywhere in the calendar, and turned round.
func TestHorizon(t *testing.T) {
	const all = 3652059
	for _, from := range []int{0, 1, 58, 59, 365, 36524, 146097, 693595, 730178, 738885, 738944, all - 4001, all - 4000, all - 3999, all - 2, all - 1} {
		for _, further := range []int{-all, -4000, -366, -31, -1, 0, 1, 30, 365, 3998, 3999, 4000, 4001, 5000, 1 << 16, all} {
			to := min(max(0, from+further), all-1)
			p := api.Plan{Name: "p", Currency: "c", Line: 3, Col: 4}
			p.From, _ = date.Of(from)
			p.To, _ = date.Of(to)
			var want api.Fault
			switch {
			case to < from:
				want = api.Fault{Err: api.ErrType, Line: 3, Col: 4}
			case to-from >= api.MaxDays:
				want = api.Fault{Err: api.ErrLimit, Line: 3, Col: 4}
			}
			if got := hold(t, p); got != want {
				t.Errorf("%v to %v: %v, not %v", p.From, p.To, got, want)
			}
		}
	}
}

// P9.1: windows of fees and of charges, each two days about the horizon's ends, about leap days, and far away.
func TestWindows(t *testing.T) {
	at := func(year, month, day int) api.Date { return api.Date{Year: year, Month: month, Day: day} }
	list := []api.Date{
		at(1, 1, 1), at(2022, 12, 31), at(2023, 2, 27), at(2023, 2, 28), at(2023, 3, 1), at(2023, 10, 9), at(2023, 12, 31), at(2024, 1, 1),
		at(2024, 2, 28), at(2024, 2, 29), at(2024, 3, 1), at(2024, 3, 2), at(2024, 12, 31), at(9999, 12, 31),
	}
	for i, a := range list {
		for k, b := range list {
			fee := api.Plan{From: at(2023, 2, 28), To: at(2024, 3, 1), Fees: []api.Fee{{}, {Amount: 1, Window: window(a, b), Line: 5, Col: 6}}, Line: 1, Col: 1}
			charge := api.Plan{From: fee.From, To: fee.To, Meters: []api.Meter{{Name: "m"}}, Line: 1, Col: 1}
			charge.Charges = []api.Charge{{Meter: "m", Window: window(a, b), Block: 1, Kind: api.Volume, Tiers: make([]api.Tier, 1), Line: 5, Col: 6}}
			var want api.Fault
			if i < 3 || k < i || k > 10 {
				want = api.Fault{Err: api.ErrType, Line: 5, Col: 6}
			}
			if got := hold(t, fee); got != want {
				t.Errorf("fee: %v to %v: %v", a, b, got)
			}
			if got := hold(t, charge); got != want {
				t.Errorf("charge: %v to %v: %v", a, b, got)
			}
		}
	}
}

// P9.1: bounds told ahead: of fees, of what is left of the greatest quantity, of the greatest rate, of each adjustment.
func TestBounds(t *testing.T) {
	charge := func(s string) string { return head + "charge m { " + s + " }" }
	for s, want := range map[string]int{
		"plan p currency c; horizon 2024-01-01 2024-01-01;": 0,
		head: 0,
		head + strings.Repeat("fee 1000000000000;", 8):                                                    8000000000000,
		head + "fee 3 from 2024-01-01 to 2024-01-01; fee 4 from 2024-05-01 to 2024-06-01; fee 0;":         7,
		head + strings.Repeat("charge m from 2024-01-01 to 2024-01-01 { "+bare+" }", 8) + "fee 7;":        807,
		head + "meter n unit l max 2000; charge n { " + bare + " } charge m { " + bare + " }":             2100,
		head + "meter n unit l max 0; charge n { " + bare + " add 9; }":                                   9,
		charge("graduated { rest rate 0; } round ceil;"):                                                  0,
		charge("graduated { rest rate 0.000001; } round floor;"):                                          1,
		charge("graduated { rest rate 0.01; } round floor;"):                                              1,
		charge("graduated { rest rate 0.010001; } round floor;"):                                          2,
		charge("volume { rest rate 0.019999; } round halfup;"):                                            2,
		charge("volume { rest rate 1000000; } round halfeven;"):                                           100000000,
		charge("graduated { upto 1 rate 9; upto 2 rate 7; rest rate 8; } round floor;"):                   900,
		charge("graduated { upto 1 rate 7; upto 2 rate 9; rest rate 8; } round floor;"):                   900,
		charge("volume { upto 1000000 rate 7; rest rate 9; } round floor;"):                               900,
		charge("allowance 1; " + bare):                                                                    99,
		charge("allowance 99; " + bare):                                                                   1,
		charge("allowance 100; " + bare):                                                                  0,
		charge("allowance 1000000; " + bare):                                                              0,
		charge("allowance 1000000; block 9; " + bare):                                                     0,
		charge("block 9; " + bare):                                                                        108,
		charge("block 10; " + bare):                                                                       100,
		charge("block 100; " + bare):                                                                      100,
		charge("block 101; " + bare):                                                                      101,
		charge("allowance 99; block 1000000; " + bare):                                                    1000000,
		charge("allowance 1; block 33; " + bare):                                                          99,
		charge("allowance 30; block 8; volume { rest rate 0.333; } round floor;"):                         24,
		charge("allowance 99; block 1000000; volume { rest rate 1000000; } round floor;"):                 1000000000000,
		charge(bare + " percent 0 ceil;"):                                                                 0,
		charge(bare + " percent 1 floor;"):                                                                1,
		charge(bare + " percent 1.001 floor;"):                                                            2,
		charge(bare + " percent 0.001 halfup;"):                                                           1,
		charge(bare + " percent 100 halfeven;"):                                                           100,
		charge(bare + " percent 33.333 floor; percent 300 floor;"):                                        102,
		charge(bare + " cap 0;"):                                                                          0,
		charge(bare + " cap 99;"):                                                                         99,
		charge(bare + " cap 100;"):                                                                        100,
		charge(bare + " cap 101;"):                                                                        100,
		charge(bare + " minimum 99;"):                                                                     100,
		charge(bare + " minimum 100;"):                                                                    100,
		charge(bare + " minimum 101;"):                                                                    101,
		charge(bare + " add 0;"):                                                                          100,
		charge(bare + " add 1000000000000;"):                                                              1000000000100,
		charge(bare + " add 5; percent 50 floor; cap 50; minimum 60; add 1;"):                             61,
		charge(bare + " cap 50; percent 150 ceil; add 5; minimum 10;"):                                    80,
		charge(bare + " minimum 200; cap 150;"):                                                           150,
		charge(bare + " cap 150; minimum 200;"):                                                           200,
		charge("allowance 100; " + bare + " percent 100000 ceil; add 7; minimum 5; percent 10.001 ceil;"): 1,
	} {
		p := parsed(t, s)
		if e := hold(t, p); e != (api.Fault{}) {
			t.Errorf("%s: %v", s, e)
		}
		if got, ok := check.Bound(p); got != want || !ok {
			t.Errorf("%s: %d, %v, not %d", s, got, ok, want)
		}
	}
}

// up: adjustments that make 2^60 less 976 of 0; one more may follow.
const up = "minimum 1000000000000; add 152921504606; percent 100000 floor; add 846; percent 100000 floor; "

// P9.1: there is a bound up to 2^60 less one, and none from there on: of the fees, of each number of a charge, of each sum; whatever becomes of it behind.
func TestGreat(t *testing.T) {
	zero := "charge m { allowance 100; " + bare
	grow := func(n int) string { return zero + up + "add " + fmt.Sprint(n) + "; }" }
	const most = 1<<60 - 1
	for s, want := range map[string]int{
		grow(975):                                  most,
		grow(976):                                  -1,
		grow(974) + "fee 1;":                       most,
		grow(975) + "fee 0;":                       most,
		"fee 0;" + grow(976):                       -1,
		grow(975) + "fee 1;":                       -1,
		grow(974) + "fee 1; fee 1;":                -1,
		grow(975) + zero + "}":                     most,
		zero + "}" + grow(976):                     -1,
		grow(975) + zero + "add 1; }":              -1,
		zero + "add 1; }" + grow(975):              -1,
		zero + "add 1; }" + grow(974):              most,
		grow(900) + grow(900):                      -1,
		strings.Repeat(grow(0), 8):                 -1,
		grow(976) + zero + "}":                     -1,
		grow(975) + zero + "add 1; }" + zero + "}": -1,
		// By a percentage alone: of 2^59, and of 2^39 times a million.
		zero + "minimum 549755813888; percent 100000 floor; percent 100000 floor; percent 209.715 floor; }":                   1152920405095219200,
		zero + "minimum 576460752303; percent 100000 floor; add 423; percent 100000 floor; add 488; percent 199.999 floor; }": 1152915739999323942,
		zero + "minimum 576460752303; percent 100000 floor; add 423; percent 100000 floor; add 488; percent 200 floor; }":     -1,
		zero + "minimum 549755813888; percent 100000 floor; percent 100000 floor; percent 209.716 floor; }":                   -1,
		// What is too great on the way isn't mended by what comes behind.
		zero + up + "add 976; }": -1,
		zero + "minimum 1000000000000; percent 100000 floor; percent 100000 floor; percent 115.293 floor; cap 1; }":          -1,
		zero + "minimum 1000000000000; percent 100000 floor; percent 100000 floor; percent 115.292 floor; cap 1; }":          1,
		zero + "minimum 1000000000000; percent 100000 floor; percent 100000 floor; percent 100000 floor; cap 1; }":           -1,
		zero + "minimum 1000000000000; percent 100000 floor; percent 100000 floor; percent 100000 floor; percent 0 floor; }": -1,
		zero + "minimum 1000000000000; percent 100000 floor; percent 100000 floor; percent 100 floor; cap 1; }":              1,
		zero + "percent 100000 floor; percent 100000 floor; percent 100000 floor; percent 100000 floor; }":                   0,
	} {
		p := parsed(t, head+s)
		fault := api.Fault{}
		got, ok := check.Bound(p)
		if want < 0 {
			fault = api.Fault{Err: api.ErrLimit, Line: 1, Col: 1}
			if got != 0 || ok {
				t.Errorf("%s: %d, %v", s, got, ok)
			}
		} else if got != want || !ok {
			t.Errorf("%s: %d, %v, not %d", s, got, ok, want)
		}
		if e := hold(t, p); e != fault {
			t.Errorf("%s: %v", s, e)
		}
	}
}

// pick: one of several.
func pick[T any](r *rand.Rand, list ...T) T { return list[r.Intn(len(list))] }

// randomWindow: a window, most often within the horizon.
func randomWindow(r *rand.Rand) api.Window {
	if r.Intn(2) == 0 {
		// Days without a window play no part.
		return api.Window{}
	}
	one := func() api.Date { return day(1+r.Intn(12), 1+r.Intn(28)) }
	w := window(one(), one())
	if r.Intn(8) > 0 && stamp(w.To).Before(stamp(w.From)) {
		w.From, w.To = w.To, w.From
	}
	if r.Intn(40) == 0 {
		w.From.Year += pick(r, -1, 1)
	}
	return w
}

// randomCharge: a charge of a meter; calm: with which nothing is wrong but for its window.
func randomCharge(r *rand.Rand, meter string, calm bool) api.Charge {
	c := api.Charge{
		Meter: meter, Window: randomWindow(r), Allowance: pick(r, 0, 0, 1, r.Intn(30), r.Intn(3000), 1000000), Block: pick(r, 1, 1, 2, 7, 1+r.Intn(50), 1+r.Intn(3000), 1000000),
		Kind: 1 + r.Intn(2), Mode: r.Intn(4), Line: r.Intn(99), Col: r.Intn(99),
	}
	rate := func() int {
		return pick(r, 0, 1, 333333, 500000, 1000000, r.Intn(3000000), r.Intn(api.MaxAmount), api.MaxAmount)
	}
	upto := 0
	for range pick(r, 0, 1, 3, r.Intn(8)) {
		upto += 1 + pick(r, 0, r.Intn(9), r.Intn(300))
		c.Tiers = append(c.Tiers, api.Tier{Upto: upto, Rate: rate()})
	}
	c.Tiers = append(c.Tiers, api.Tier{Rate: rate()})
	for range pick(r, 0, 1, r.Intn(7)) {
		amount := pick(r, 0, 1, 100, r.Intn(1000), r.Intn(api.MaxAmount), api.MaxAmount)
		percent := pick(r, 0, 1, 33333, 50000, api.Whole, r.Intn(300000), r.Intn(300000), api.MaxPercent)
		c.Adjusts = append(c.Adjusts, pick(r, api.Adjust{Kind: 1, N: percent, Mode: r.Intn(4)}, api.Adjust{Kind: 2, N: amount}, api.Adjust{Kind: 3, N: amount}, api.Adjust{Kind: 4, N: amount}))
	}
	if !calm && r.Intn(10) == 0 {
		pick(r,
			func() { c.Meter = "none" },
			func() { c.Block = 0 },
			func() { c.Tiers[r.Intn(len(c.Tiers))].Upto = pick(r, 0, 5) },
			func() { c.Tiers = slices.Insert(c.Tiers, 0, make([]api.Tier, 8)...) },
			func() { c.Adjusts = append(c.Adjusts, slices.Repeat([]api.Adjust{{Kind: 4}}, 5)...) },
		)()
		c.Tiers[len(c.Tiers)-1].Upto = 0
	}
	return c
}

// randomPlan: a plan; calm: with which seldom anything is wrong.
func randomPlan(r *rand.Rand, calm bool) api.Plan {
	p := api.Plan{Name: "p", Currency: "c", From: day(1, 1), To: day(12, 31), Line: r.Intn(99), Col: r.Intn(99)}
	most := func(n int) int {
		if calm {
			return r.Intn(n + 1)
		}
		return pick(r, 0, 1, n, r.Intn(n+1), r.Intn(n+1), r.Intn(n+2))
	}
	for i := range max(1, most(4)) {
		name := string(rune('a' + i))
		if !calm && r.Intn(20) == 0 {
			name = "b"
		}
		p.Meters = append(p.Meters, api.Meter{Name: name, Unit: "u", Max: pick(r, 0, 1, r.Intn(60), r.Intn(60), r.Intn(400)), Line: r.Intn(99), Col: r.Intn(99)})
	}
	for range most(8) {
		p.Fees = append(p.Fees, api.Fee{Amount: pick(r, 0, 5, r.Intn(1000), api.MaxAmount), Window: randomWindow(r), Line: r.Intn(99), Col: r.Intn(99)})
	}
	for range most(8) {
		p.Charges = append(p.Charges, randomCharge(r, p.Meters[r.Intn(len(p.Meters))].Name, calm))
	}
	return p
}

// P9.1: plans made at random, held against the second telling.
func TestRandom(t *testing.T) {
	r := rand.New(rand.NewSource(9))
	found := map[api.Fault]int{}
	for range 20000 {
		e := hold(t, randomPlan(r, false))
		found[api.Fault{Err: e.Err}]++
	}
	for _, err := range []api.Errno{api.OK, api.ErrType, api.ErrLimit} {
		if found[api.Fault{Err: err}] < 1000 {
			t.Errorf("%d: %d plans alone", err, found[api.Fault{Err: err}])
		}
	}
}

// P9.2: no basket costs more than the bound, of plans made at random; of some the dearest one costs just as much.
func TestNeverAbove(t *testing.T) {
	r := rand.New(rand.NewSource(92))
	plans, attained := 0, 0
	for range 1500 {
		p := randomPlan(r, true)
		if hold(t, p) != (api.Fault{}) {
			continue
		}
		n, _ := check.Bound(p)
		plans++
		switch dearest(p).Cmp(num(n)) {
		case 1:
			t.Fatalf("%s: %v, above %d", show.Plan(p), dearest(p), n)
		case 0:
			attained++
		}
	}
	if plans < 300 || attained < 50 {
		t.Errorf("%d plans, %d attained", plans, attained)
	}
}

// P9.2: where a single rate is rounded up, at each step, the greatest quantity costs the bound: a lesser bound would be broken.
func TestAttained(t *testing.T) {
	r := rand.New(rand.NewSource(93))
	for range 500 {
		p := randomPlan(r, true)
		for i := range p.Charges {
			c := &p.Charges[i]
			c.Window, c.Mode, c.Tiers = api.Window{}, api.Ceil, c.Tiers[len(c.Tiers)-1:]
			for k := range c.Adjusts {
				if c.Adjusts[k].Kind == api.Percent {
					c.Adjusts[k].Mode = api.Ceil
				}
			}
		}
		for i := range p.Fees {
			p.Fees[i].Window = api.Window{}
		}
		if hold(t, p) != (api.Fault{}) {
			continue
		}
		if n, _ := check.Bound(p); dearest(p).Cmp(num(n)) != 0 {
			t.Fatalf("%s: %v, not %d", show.Plan(p), dearest(p), n)
		}
	}
}

// P9.1: of plans that no text has both calls end, too, and answer alike each time; of a plan with a negative number as of others.
func TestOthers(t *testing.T) {
	wild := api.Charge{Window: api.Window{Has: true}, Allowance: math.MinInt, Block: math.MinInt, Kind: math.MaxInt, Mode: -1}
	for _, k := range []int{math.MinInt, -1, 0, 1, 2, 3, 4, 5, math.MaxInt} {
		wild.Tiers = append(wild.Tiers, api.Tier{Upto: k, Rate: k})
		for _, n := range []int{math.MinInt, -1, 0, math.MaxInt} {
			wild.Adjusts = append(wild.Adjusts, api.Adjust{Kind: k, N: n, Mode: k})
		}
	}
	odd := []api.Charge{{}, {Block: 1}, {Block: 1, Tiers: []api.Tier{}, Adjusts: []api.Adjust{{}}}, {Block: -1}, {Meter: "m"}, {Block: 1, Allowance: math.MinInt, Tiers: []api.Tier{{Rate: math.MaxInt}}}, wild}
	var list []api.Plan
	for _, c := range odd {
		for _, most := range []int{math.MinInt, -1, 0, 1, math.MaxInt} {
			list = append(list, api.Plan{Meters: []api.Meter{{Max: most}}, Charges: []api.Charge{c}}, api.Plan{From: day(1, 1), To: day(1, 1), Meters: []api.Meter{{Max: most}}, Charges: []api.Charge{c, c}})
		}
	}
	list = append(list, api.Plan{}, api.Plan{From: api.Date{Year: -1, Month: 13, Day: 32}, To: day(2, 30)}, api.Plan{Fees: []api.Fee{{Amount: math.MinInt}, {Amount: math.MinInt}}}, api.Plan{Fees: []api.Fee{{Amount: math.MaxInt}, {Amount: 1}}})
	for _, p := range list {
		n, ok := check.Bound(p)
		if m, fine := check.Bound(p); m != n || fine != ok || !ok && n != 0 {
			t.Errorf("%+v: %d, %v, and %d, %v", p, n, ok, m, fine)
		}
		if a, b := check.Plan(p), check.Plan(p); a != b {
			t.Errorf("%+v: %v, and %v", p, a, b)
		}
	}
}

// What is handed in isn't changed, spare room included.
func TestUntouched(t *testing.T) {
	roomy := func() api.Plan {
		p := full()
		p.Meters = append(slices.Grow(p.Meters, 9), api.Meter{Name: "spare"})[:len(p.Meters)]
		p.Fees = append(slices.Grow(p.Fees, 9), api.Fee{Amount: 7})[:len(p.Fees)]
		p.Charges = append(slices.Grow(p.Charges, 9), api.Charge{Meter: "spare"})[:len(p.Charges)]
		for i := range p.Charges {
			c := &p.Charges[i]
			c.Tiers = append(slices.Grow(c.Tiers, 9), api.Tier{Upto: 7})[:len(c.Tiers)]
			c.Adjusts = append(slices.Grow(c.Adjusts, 9), api.Adjust{N: 7})[:len(c.Adjusts)]
		}
		return p
	}
	all := func(p api.Plan) string {
		s := fmt.Sprintf("%+v %+v %+v %+v", p, p.Meters[:cap(p.Meters)], p.Fees[:cap(p.Fees)], p.Charges[:cap(p.Charges)])
		for _, c := range p.Charges {
			s += fmt.Sprintf(" %+v %+v", c.Tiers[:cap(c.Tiers)], c.Adjusts[:cap(c.Adjusts)])
		}
		return s
	}
	p, want := roomy(), all(roomy())
	if e := check.Plan(p); e != (api.Fault{}) {
		t.Errorf("%v", e)
	}
	if _, ok := check.Bound(p); !ok {
		t.Error("no bound")
	}
	if got := all(p); got != want {
		t.Errorf("%s\nnot\n%s", got, want)
	}
}

// An answer hangs on the plan alone: neither on what was checked ahead, nor on who else checks one.
func TestAtOnce(t *testing.T) {
	great, fine := parsed(t, head+"charge m {"+bare+up+"add 976; }"), full()
	want, _ := check.Bound(fine)
	var all sync.WaitGroup
	for range 8 {
		all.Go(func() {
			for range 300 {
				if n, ok := check.Bound(great); n != 0 || ok || check.Plan(great) != (api.Fault{Err: api.ErrLimit, Line: 1, Col: 1}) {
					t.Error("another fault")
					return
				}
				if n, ok := check.Bound(fine); n != want || !ok || check.Plan(fine) != (api.Fault{}) {
					t.Error("another bound")
					return
				}
			}
		})
	}
	all.Wait()
}
