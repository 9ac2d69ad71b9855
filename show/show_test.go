package show_test

import (
	"fmt"
	"math"
	"math/rand"
	"slices"
	"strings"
	"sync"
	"testing"

	"poundage/api"
	"poundage/date"
	"poundage/parse"
	"poundage/show"
)

// head, headText: what stands ahead of the items of a plan, and its plain text.
const (
	head     = "plan p currency c; horizon 2024-01-01 2024-12-31; "
	headText = "plan p currency c;\nhorizon 2024-01-01 2024-12-31;\n"
)

// fullText: the plain text of full.
const fullText = `plan old currency EUR;
horizon 2024-01-01 2024-12-31;
meter power unit kWh max 500;
meter gas unit m3 max 0;
fee 12;
fee 5 from 2024-02-01 to 2024-02-29;
charge power from 2024-03-01 to 2024-06-30 {
	allowance 20;
	block 5;
	graduated {
		upto 100 rate 0.25;
		upto 200 rate 12;
		rest rate 0.000001;
	}
	round halfeven;
	percent 107.5 ceil;
	cap 1000;
	minimum 3;
	add 0;
}
charge gas {
	volume {
		rest rate 0;
	}
	round floor;
}
`

// day: a day of 2024.
func day(month, day int) api.Date { return api.Date{Year: 2024, Month: month, Day: day} }

// full: a plan that has all that a text has, each that may be left out once told and once not; with places that no text has.
func full() api.Plan {
	return api.Plan{
		Name: "old", Currency: "EUR", From: day(1, 1), To: day(12, 31), Line: 9, Col: -1,
		Meters: []api.Meter{{Name: "power", Unit: "kWh", Max: 500, Line: 8}, {Name: "gas", Unit: "m3", Col: 7}},
		Fees:   []api.Fee{{Amount: 12, Line: 6, Col: 6}, {Amount: 5, Window: api.Window{Has: true, From: day(2, 1), To: day(2, 29)}, Line: 1, Col: 1}},
		Charges: []api.Charge{
			{
				Meter: "power", Window: api.Window{Has: true, From: day(3, 1), To: day(6, 30)}, Allowance: 20, Block: 5, Kind: api.Graduated, Mode: api.HalfEven, Line: 5, Col: math.MaxInt,
				Tiers:   []api.Tier{{Upto: 100, Rate: 250000}, {Upto: 200, Rate: 12000000}, {Rate: 1}},
				Adjusts: []api.Adjust{{Kind: api.Percent, N: 107500, Mode: api.Ceil}, {Kind: api.Cap, N: 1000}, {Kind: api.Minimum, N: 3}, {Kind: api.Add}},
			},
			{Meter: "gas", Block: 1, Kind: api.Volume, Mode: api.Floor, Tiers: []api.Tier{{}}, Line: math.MinInt, Col: 4},
		},
	}
}

// charged: a plan that has a charge alone, turned somehow.
func charged(turn func(c *api.Charge)) api.Plan {
	c := api.Charge{Meter: "m", Block: 1, Kind: api.Volume, Mode: api.Ceil, Tiers: []api.Tier{{Rate: 1000000}}}
	turn(&c)
	return api.Plan{Name: "p", Currency: "c", From: day(1, 1), To: day(12, 31), Charges: []api.Charge{c}}
}

// P8.1: each mode's word, and none of what is no mode.
func TestMode(t *testing.T) {
	for m, want := range map[int]string{
		api.Floor: "floor", api.Ceil: "ceil", api.HalfUp: "halfup", api.HalfEven: "halfeven",
		-1: "", 4: "", 5: "", 1 << 32: "", 1<<32 + 1: "", -1 << 32: "", math.MinInt: "", math.MaxInt: "",
	} {
		if got := show.Mode(m); got != want {
			t.Errorf("%d: %q, not %q", m, got, want)
		}
	}
}

// P8.1: the text of a plan that has everything, told ahead.
func TestFull(t *testing.T) {
	if got := show.Plan(full()); got != fullText {
		t.Errorf("%s", got)
	}
	if got := hold(t, fullText); got != fullText {
		t.Errorf("%s", got)
	}
}

// P8.1: texts told ahead: what is left out, what is told though it is like nothing, in which order, and with which letters.
func TestTexts(t *testing.T) {
	const volume = "\tvolume {\n\t\trest rate 1;\n\t}\n"
	for s, want := range map[string]string{
		"":                                     "",
		"#":                                    "",
		"fee 0;":                               "fee 0;\n",
		"\r\n fee\t1000000000000 # a fee\n;":   "fee 1000000000000;\n",
		"fee 2;fee 1;fee 2;":                   "fee 2;\nfee 1;\nfee 2;\n",
		"fee 1 from 9999-12-31 to 0001-01-01;": "fee 1 from 9999-12-31 to 0001-01-01;\n",
		"meter b unit b max 2000; meter a unit p max 0; meter b unit x_1 max 10;":                                                                  "meter b unit b max 2000;\nmeter a unit p max 0;\nmeter b unit x_1 max 10;\n",
		"charge m { volume { rest rate 1; } round floor; } fee 3; meter _ unit U max 1; fee 4;":                                                    "meter _ unit U max 1;\nfee 3;\nfee 4;\ncharge m {\n" + volume + "\tround floor;\n}\n",
		"charge m { volume { rest rate 1; } round ceil; } charge k{volume{rest rate 1;}round ceil;}":                                               "charge m {\n" + volume + "\tround ceil;\n}\ncharge k {\n" + volume + "\tround ceil;\n}\n",
		"charge m { allowance 0; block 1; volume { rest rate 1.000000; } round halfup; }":                                                          "charge m {\n" + volume + "\tround halfup;\n}\n",
		"charge m { allowance 1; block 0; volume { rest rate 1.0; } round halfeven; }":                                                             "charge m {\n\tallowance 1;\n\tblock 0;\n" + volume + "\tround halfeven;\n}\n",
		"charge m { block 2; volume { rest rate 1; } round ceil; }":                                                                                "charge m {\n\tblock 2;\n" + volume + "\tround ceil;\n}\n",
		"charge m { allowance 1000000; volume { rest rate 1; } round ceil; }":                                                                      "charge m {\n\tallowance 1000000;\n" + volume + "\tround ceil;\n}\n",
		"charge m from 2024-02-29 to 2024-03-01 { graduated { upto 0 rate 0.10; upto 0 rate 0; rest rate 0.0; } round floor; }":                    "charge m from 2024-02-29 to 2024-03-01 {\n\tgraduated {\n\t\tupto 0 rate 0.1;\n\t\tupto 0 rate 0;\n\t\trest rate 0;\n\t}\n\tround floor;\n}\n",
		"charge m { volume { rest rate 1; } round floor; add 3; percent 100.0 floor; add 4; cap 0; percent 0.001 halfup; minimum 1000000000000; }": "charge m {\n" + volume + "\tround floor;\n\tadd 3;\n\tpercent 100 floor;\n\tadd 4;\n\tcap 0;\n\tpercent 0.001 halfup;\n\tminimum 1000000000000;\n}\n",
	} {
		if got := hold(t, head+s); got != headText+want {
			t.Errorf("%q:\n%s\nnot\n%s", s, got, headText+want)
		}
	}
}

// P8.1: rates and percentages with as few places as can be, up to their bounds.
func TestPlaces(t *testing.T) {
	for n, want := range map[int]string{
		0: "0", 1: "0.000001", 10: "0.00001", 12500: "0.0125", 100000: "0.1", 999999: "0.999999", 1000000: "1", 1000001: "1.000001", 1500000: "1.5", 12000000: "12",
		100000000: "100", api.MaxAmount - 1: "999999.999999", api.MaxAmount: "1000000",
	} {
		upto := charged(func(c *api.Charge) { c.Tiers = []api.Tier{{Upto: 7, Rate: n}, {Rate: n}} })
		if got, want := show.Plan(upto), headText+"charge m {\n\tvolume {\n\t\tupto 7 rate "+want+";\n\t\trest rate "+want+";\n\t}\n\tround ceil;\n}\n"; got != want {
			t.Errorf("%s\nnot\n%s", got, want)
		}
	}
	for n, want := range map[int]string{
		0: "0", 1: "0.001", 10: "0.01", 100: "0.1", 999: "0.999", 1000: "1", 1001: "1.001", 107500: "107.5", api.Whole: "100", api.MaxPercent - 1: "99999.999", api.MaxPercent: "100000",
	} {
		percent := charged(func(c *api.Charge) { c.Adjusts = []api.Adjust{{Kind: api.Percent, N: n, Mode: api.HalfUp}} })
		if got, want := show.Plan(percent), headText+"charge m {\n\tvolume {\n\t\trest rate 1;\n\t}\n\tround ceil;\n\tpercent "+want+" halfup;\n}\n"; got != want {
			t.Errorf("%s\nnot\n%s", got, want)
		}
	}
}

// P8.1: each two modes and kinds, with each kind of adjustment.
func TestKinds(t *testing.T) {
	modes := []string{"floor", "ceil", "halfup", "halfeven"}
	for _, kind := range []string{"graduated", "volume"} {
		for _, round := range modes {
			for _, mode := range modes {
				for _, adjust := range []string{"", "percent 0 " + mode + ";", "percent 1.5 " + mode + ";", "cap 5;", "minimum 6;", "add 7;"} {
					hold(t, head+"charge m{"+kind+"{rest rate 1;}round "+round+";"+adjust+"}")
				}
			}
		}
	}
}

// P8.1: days anywhere in the calendar, as a horizon and as windows.
func TestDays(t *testing.T) {
	for n := 0; n < 3652059; n += 31 * 997 {
		a, _ := date.Of(n)
		b, _ := date.Of(3652058 - n)
		from, to := date.Text(a), date.Text(b)
		got := hold(t, "plan p currency c;horizon "+from+" "+to+";fee 1 from "+to+" to "+from+";charge m from "+from+" to "+to+"{volume{rest rate 1;}round ceil;}")
		want := "plan p currency c;\nhorizon " + from + " " + to + ";\nfee 1 from " + to + " to " + from + ";\ncharge m from " + from + " to " + to + " {\n"
		if !strings.HasPrefix(got, want) {
			t.Errorf("%s\nnot\n%s", got, want)
		}
	}
}

// P8.1, P8.2: plans made at random, whatever stands between their tokens.
func TestRandom(t *testing.T) {
	r := rand.New(rand.NewSource(8))
	gaps := []string{" ", "\n", "\t", "\r\n", " # }\n", "\n\n  ", " \t "}
	for range 5000 {
		var s strings.Builder
		for _, token := range strings.Fields(randomPlan(r)) {
			s.WriteString(gaps[r.Intn(len(gaps))] + token)
		}
		hold(t, s.String())
	}
}

// pick: one of several.
func pick[T any](r *rand.Rand, list ...T) T { return list[r.Intn(len(list))] }

// randomWhole, randomPointed: numbers, those about which a text has something to say, and any.
func randomWhole(r *rand.Rand, most int) string {
	return fmt.Sprint(pick(r, 0, 1, 2, most-1, most, r.Intn(most+1)))
}

func randomPointed(r *rand.Rand, most, places int) string {
	whole := pick(r, 0, 1, 10, most-1, r.Intn(most))
	if r.Intn(4) == 0 {
		return fmt.Sprint(whole)
	}
	behind := fmt.Sprintf("%0*d", places, pick(r, 0, 1, 10, 1000, 500000, r.Intn(1000000)))
	return fmt.Sprint(whole) + "." + behind[:1+r.Intn(places)]
}

// randomWindow: a window, or none.
func randomWindow(r *rand.Rand) string {
	if r.Intn(2) == 0 {
		return ""
	}
	return " from " + randomDay(r) + " to " + randomDay(r)
}

func randomDay(r *rand.Rand) string {
	return fmt.Sprintf("%04d-%02d-%02d", pick(r, 1, 9999, 2024, 1+r.Intn(9999)), 1+r.Intn(12), 1+r.Intn(28))
}

func randomName(r *rand.Rand) string {
	return pick(r, "a", "m", "_x", "EUR", "Plan", "fees", "k9", "max_", "_block", "upto1", "z_charge")
}

func randomMode(r *rand.Rand) string { return pick(r, "floor", "ceil", "halfup", "halfeven") }

// randomCharge: a charge's tokens.
func randomCharge(r *rand.Rand) string {
	s := " charge " + randomName(r) + randomWindow(r) + " {"
	if r.Intn(2) == 0 {
		s += " allowance " + randomWhole(r, 1000000) + " ;"
	}
	if r.Intn(2) == 0 {
		s += " block " + randomWhole(r, 1000000) + " ;"
	}
	s += pick(r, " graduated {", " volume {")
	for range r.Intn(4) {
		s += " upto " + randomWhole(r, 1000000) + " rate " + randomPointed(r, 1000000, 6) + " ;"
	}
	s += " rest rate " + randomPointed(r, 1000000, 6) + " ; } round " + randomMode(r) + " ;"
	for range r.Intn(5) {
		s += pick(r, " percent "+randomPointed(r, 100000, 3)+" "+randomMode(r), " cap "+randomWhole(r, api.MaxAmount), " minimum "+randomWhole(r, api.MaxAmount), " add "+randomWhole(r, api.MaxAmount)) + " ;"
	}
	return s + " }"
}

// randomPlan: a plan's tokens, with blanks between.
func randomPlan(r *rand.Rand) string {
	s := "plan " + randomName(r) + " currency " + randomName(r) + " ; horizon " + randomDay(r) + " " + randomDay(r) + " ;"
	for range r.Intn(8) {
		switch r.Intn(3) {
		case 0:
			s += " meter " + randomName(r) + " unit " + randomName(r) + " max " + randomWhole(r, 2000) + " ;"
		case 1:
			s += " fee " + randomWhole(r, api.MaxAmount) + randomWindow(r) + " ;"
		default:
			s += randomCharge(r)
		}
	}
	return s
}

// P8.1, P8.2: plans whose texts are as long as may be, and longer; very many of everything, as no layer ahead bounds them.
func TestLong(t *testing.T) {
	// A plain text that is as long as may be is its own; with a line feed less it can be read still, but not its plain text.
	room := api.MaxText - len(headText)
	fees := headText + strings.Repeat("fee 1;\n", room/len("fee 1;\n"))
	exact := fees[:len(fees)-len("1;\n")] + strings.Repeat("1", 1+api.MaxText-len(fees)) + ";\n"
	if got := hold(t, exact); got != exact || len(got) != api.MaxText {
		t.Errorf("%d bytes", len(got))
	}
	longer := strings.Replace(exact, "fee 1;\n", "fee 12;", 1)
	if got := hold(t, longer); len(got) != api.MaxText+1 {
		t.Errorf("%d bytes", len(got))
	}
	for _, c := range []struct {
		ahead, piece, behind string
		times                int
	}{
		{"", "fee 1;", "", 1350},
		{"", "fee 1 from 2024-01-01 to 2024-01-02;", "", 224},
		{"", "meter m unit u max 9;", "", 380},
		{"", "charge m{volume{rest rate 1;}round ceil;}", "", 190},
		{"charge m{volume{", "upto 1 rate 1;", "rest rate 1;}round ceil;}", 570},
		{"charge m{volume{rest rate 1;}round ceil;", "add 1;", "}", 1300},
		{"charge m{volume{rest rate 1;}round ceil;", "percent 1 floor;", "}", 500},
	} {
		if got := hold(t, head+c.ahead+strings.Repeat(c.piece, c.times)+c.behind); len(got) <= api.MaxText {
			t.Errorf("%s: %d bytes", c.piece, len(got))
		}
	}
	name := strings.Repeat("x", 7000)
	hold(t, "plan "+name+" currency c;horizon 2024-01-01 2024-01-01;")
	hold(t, head+"meter "+name+" unit u max 1;")
	hold(t, head+"meter m unit "+name+" max 1;")
	hold(t, head+"charge "+name+"{volume{rest rate 1;}round ceil;}")
}

// P8.1: of plans that no text has the call ends, too, and the same plan has the same text.
func TestOthers(t *testing.T) {
	wild := api.Charge{Meter: "\xff", Window: api.Window{Has: true}, Allowance: math.MinInt, Block: math.MinInt, Kind: math.MaxInt, Mode: -1}
	for _, k := range []int{math.MinInt, -1, 0, 1, 2, 3, 4, 5, math.MaxInt} {
		wild.Tiers = append(wild.Tiers, api.Tier{Upto: k, Rate: k})
		for _, n := range []int{math.MinInt, -1, 0, math.MaxInt} {
			wild.Adjusts = append(wild.Adjusts, api.Adjust{Kind: k, N: n, Mode: k})
		}
	}
	for _, p := range []api.Plan{
		{},
		{Name: "\n", Currency: "{}", From: api.Date{Year: -1, Month: 13, Day: 32}, To: day(2, 30)},
		{Meters: []api.Meter{{}, {Name: ";", Unit: "\x00", Max: math.MinInt}}, Fees: []api.Fee{{}, {Amount: math.MinInt, Window: api.Window{Has: true}}, {Window: api.Window{From: day(1, 1)}}}},
		{Charges: []api.Charge{{}, {Tiers: []api.Tier{}}, {Adjusts: make([]api.Adjust, 100)}, {Tiers: make([]api.Tier, 100000)}, wild}},
		{Charges: make([]api.Charge, 10000)},
	} {
		if a, b := show.Plan(p), show.Plan(p); a != b {
			t.Errorf("%.2000q, %.2000q", a, b)
		}
	}
}

// What is handed in isn't changed, spare room included.
func TestUntouched(t *testing.T) {
	roomy := func() api.Plan {
		p := full()
		p.Meters = append(slices.Grow(p.Meters, 9), api.Meter{Name: "spare"})[:len(p.Meters)]
		p.Fees = append(slices.Grow(p.Fees, 9), api.Fee{Amount: 7})[:len(p.Fees)]
		p.Charges = append(slices.Grow(p.Charges, 9), api.Charge{Meter: "spare"})[:len(p.Charges)]
		for i := range p.Charges {
			c := &p.Charges[i]
			c.Tiers = append(slices.Grow(c.Tiers, 9), api.Tier{Upto: 7})[:len(c.Tiers)]
			c.Adjusts = append(slices.Grow(c.Adjusts, 9), api.Adjust{N: 7})[:len(c.Adjusts)]
		}
		return p
	}
	all := func(p api.Plan) string {
		s := fmt.Sprintf("%+v %+v %+v %+v", p, p.Meters[:cap(p.Meters)], p.Fees[:cap(p.Fees)], p.Charges[:cap(p.Charges)])
		for _, c := range p.Charges {
			s += fmt.Sprintf(" %+v %+v", c.Tiers[:cap(c.Tiers)], c.Adjusts[:cap(c.Adjusts)])
		}
		return s
	}
	p, want := roomy(), all(roomy())
	if got := show.Plan(p); got != fullText {
		t.Errorf("%s", got)
	}
	if got := all(p); got != want {
		t.Errorf("%s\nnot\n%s", got, want)
	}
}

// An answer hangs on the plan alone: neither on what was told ahead, nor on who else tells one.
func TestAtOnce(t *testing.T) {
	other, _ := parse.Parse(head + "fee 1;")
	var all sync.WaitGroup
	for range 8 {
		all.Go(func() {
			for range 100 {
				if show.Plan(full()) != fullText || show.Plan(other) != headText+"fee 1;\n" {
					t.Error("another text")
				}
			}
		})
	}
	all.Wait()
}
