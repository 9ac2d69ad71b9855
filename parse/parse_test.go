package parse_test

import (
	"fmt"
	"math/rand"
	"slices"
	"strings"
	"testing"
	"unsafe"

	"poundage/api"
	"poundage/parse"
)

// head: what stands ahead of the items of a plan.
const head = "plan p currency c; horizon 2024-01-01 2024-12-31; "

// full: a text that has all that the grammar names, each that may be left out once there and once not.
const full = head + `
meter m_1 unit kWh max 500; fee 12; # a fee
charge m_1 from 2024-01-01 to 2024-06-30 {
	allowance 20; block 5;
	volume { upto 100 rate 0.25; upto 200 rate 3; rest rate 12.5; }
	round halfeven;
	percent 107.5 ceil; cap 9; minimum 3; add 1;
}
fee 5 from 2024-02-01 to 2024-02-29;
charge a { graduated { rest rate 0; } round floor; }
meter a unit l max 2000;
`

// samples: tokens of all kinds: all signs and words; names, numbers and days, some of them as no place takes them.
func samples() []string {
	return append(strings.Fields("{ } ; plan currency horizon meter unit max fee charge from to allowance block graduated volume upto rate rest round floor ceil halfup halfeven percent cap minimum add"),
		"x", "Plan", "_", "half_up", "0", "1", "0.0", "1.5", "2000", "2001", "0.001", "0.0001", "1000000", "1000001", "0.0000001", "1000000000001", "18446744073709551617", "2024-03-01", "0001-01-01")
}

// cut: a text's tokens; full's notes left out.
func cut(s string) []string {
	s = strings.ReplaceAll(s, "# a fee", "")
	for _, sign := range []string{"{", "}", ";"} {
		s = strings.ReplaceAll(s, sign, " "+sign+" ")
	}
	return strings.Fields(s)
}

// day: a day of 2024.
func day(month, day int) api.Date { return api.Date{Year: 2024, Month: month, Day: day} }

// P7.1: the plan of a text that has everything, told ahead, with its places.
func TestFull(t *testing.T) {
	want := api.Plan{
		Name: "p", Currency: "c", From: day(1, 1), To: day(12, 31), Line: 1, Col: 1,
		Meters: []api.Meter{{Name: "m_1", Unit: "kWh", Max: 500, Line: 2, Col: 1}, {Name: "a", Unit: "l", Max: 2000, Line: 11, Col: 1}},
		Fees:   []api.Fee{{Amount: 12, Line: 2, Col: 29}, {Amount: 5, Window: api.Window{Has: true, From: day(2, 1), To: day(2, 29)}, Line: 9, Col: 1}},
		Charges: []api.Charge{
			{
				Meter: "m_1", Window: api.Window{Has: true, From: day(1, 1), To: day(6, 30)}, Allowance: 20, Block: 5, Kind: api.Volume, Mode: api.HalfEven, Line: 3, Col: 1,
				Tiers:   []api.Tier{{Upto: 100, Rate: 250000}, {Upto: 200, Rate: 3000000}, {Rate: 12500000}},
				Adjusts: []api.Adjust{{Kind: api.Percent, N: 107500, Mode: api.Ceil}, {Kind: api.Cap, N: 9}, {Kind: api.Minimum, N: 3}, {Kind: api.Add, N: 1}},
			},
			{Meter: "a", Block: 1, Kind: api.Graduated, Mode: api.Floor, Tiers: []api.Tier{{Rate: 0}}, Line: 10, Col: 1},
		},
	}
	got, e := parse.Parse(full)
	if e != (api.Fault{}) || told(got) != told(want) {
		t.Errorf("%s, %v, not %s", told(got), e, told(want))
	}
	hold(t, full)
}

// P7.1: plans told ahead: what there is beside their heads, and in which order it came.
func TestPlans(t *testing.T) {
	plan := func(turn func(p *api.Plan)) api.Plan {
		p := api.Plan{Name: "p", Currency: "c", From: day(1, 1), To: day(12, 31), Line: 1, Col: 1}
		turn(&p)
		return p
	}
	charge := func(kind, mode int, adjusts ...api.Adjust) func(p *api.Plan) {
		return func(p *api.Plan) {
			p.Charges = []api.Charge{{Meter: "m", Block: 1, Kind: kind, Mode: mode, Tiers: []api.Tier{{Rate: 1000000}}, Adjusts: adjusts, Line: 1, Col: 51}}
		}
	}
	for s, want := range map[string]api.Plan{
		"":                    plan(func(p *api.Plan) {}),
		"#":                   plan(func(p *api.Plan) {}),
		"fee 0;":              plan(func(p *api.Plan) { p.Fees = []api.Fee{{Line: 1, Col: 51}} }),
		"\n\tfee 2;fee 1;":    plan(func(p *api.Plan) { p.Fees = []api.Fee{{Amount: 2, Line: 2, Col: 2}, {Amount: 1, Line: 2, Col: 8}} }),
		"fee\n2;fee 2 # a\n;": plan(func(p *api.Plan) { p.Fees = []api.Fee{{Amount: 2, Line: 1, Col: 51}, {Amount: 2, Line: 2, Col: 3}} }),
		// What a plan means isn't asked here: days may be turned round, and names be any.
		"fee 1 from 9999-12-31 to 0001-01-01;": plan(func(p *api.Plan) {
			p.Fees = []api.Fee{{Amount: 1, Window: api.Window{Has: true, From: api.Date{Year: 9999, Month: 12, Day: 31}, To: api.Date{Year: 1, Month: 1, Day: 1}}, Line: 1, Col: 51}}
		}),
		"meter p unit p max 0; meter p unit c max 2000;": plan(func(p *api.Plan) {
			p.Meters = []api.Meter{{Name: "p", Unit: "p", Line: 1, Col: 51}, {Name: "p", Unit: "c", Max: 2000, Line: 1, Col: 73}}
		}),
		"charge m { graduated { rest rate 1; } round floor; }":                                     plan(charge(1, 0)),
		"charge m { volume { rest rate 1; } round ceil; }":                                         plan(charge(2, 1)),
		"charge m { graduated { rest rate 1; } round halfup; }":                                    plan(charge(1, 2)),
		"charge m { volume { rest rate 1; } round halfeven; }":                                     plan(charge(2, 3)),
		"charge m { allowance 0; block 1; volume { rest rate 1.000000; } round floor; }":           plan(charge(2, 0)),
		"charge m { volume { rest rate 1; } round floor; add 3; percent 0 floor; add 4; cap 0; }":  plan(charge(2, 0, api.Adjust{Kind: 4, N: 3}, api.Adjust{Kind: 1}, api.Adjust{Kind: 4, N: 4}, api.Adjust{Kind: 2})),
		"charge m { volume { rest rate 1; } round ceil; percent 0.001 halfup; minimum 2; cap 1; }": plan(charge(2, 1, api.Adjust{Kind: 1, N: 1, Mode: 2}, api.Adjust{Kind: 3, N: 2}, api.Adjust{Kind: 2, N: 1})),
		"charge m { volume { rest rate 1; } round ceil; percent 100 halfeven; }":                   plan(charge(2, 1, api.Adjust{Kind: 1, N: 100000, Mode: 3})),
		"charge m { block 0; volume { upto 5 rate 1; upto 5 rate 2; upto 0 rate 0.000001; rest rate 4; } round floor; }": plan(func(p *api.Plan) {
			p.Charges = []api.Charge{{Meter: "m", Kind: 2, Tiers: []api.Tier{{Upto: 5, Rate: 1000000}, {Upto: 5, Rate: 2000000}, {Rate: 1}, {Rate: 4000000}}, Line: 1, Col: 51}}
		}),
	} {
		got, e := parse.Parse(head + s)
		if e != (api.Fault{}) || told(got) != told(want) {
			t.Errorf("%q: %s, %v, not %s", s, told(got), e, told(want))
		}
		hold(t, head+s)
	}
}

// P7.1: the place of a plan is that of its first token, wherever that stands.
func TestPlace(t *testing.T) {
	for ahead, want := range map[string][2]int{"": {1, 1}, " ": {1, 2}, "\n": {2, 1}, "# plan\n\t\t": {2, 3}, "\r\n\r\n  ": {3, 3}} {
		p, e := parse.Parse(ahead + head)
		if e != (api.Fault{}) || p.Line != want[0] || p.Col != want[1] {
			t.Errorf("%q: %d, %d, %v", ahead, p.Line, p.Col, e)
		}
		hold(t, ahead+full)
	}
}

// P7.1: faults told ahead, behind a head of 50 bytes: tokens that can't go on, texts that break off.
func TestFaults(t *testing.T) {
	const syntax, limit = api.ErrSyntax, api.ErrLimit
	for s, want := range map[string]api.Fault{
		";": {Err: syntax, Line: 1, Col: 51}, "}": {Err: syntax, Line: 1, Col: 51}, "x": {Err: syntax, Line: 1, Col: 51}, "plan": {Err: syntax, Line: 1, Col: 51}, "from": {Err: syntax, Line: 1, Col: 51},
		"fee": {Err: syntax, Line: 1, Col: 54}, "fee ": {Err: syntax, Line: 1, Col: 55}, "fee\n\n": {Err: syntax, Line: 3, Col: 1}, "fee #": {Err: syntax, Line: 1, Col: 56},
		"fee x;": {Err: syntax, Line: 1, Col: 55}, "fee 2024-01-01;": {Err: syntax, Line: 1, Col: 55}, "fee ;": {Err: syntax, Line: 1, Col: 55}, "fee max;": {Err: syntax, Line: 1, Col: 55},
		"fee 1": {Err: syntax, Line: 1, Col: 56}, "fee 1 1;": {Err: syntax, Line: 1, Col: 57}, "fee 1 to": {Err: syntax, Line: 1, Col: 57}, "fee 1;;": {Err: syntax, Line: 1, Col: 57}, "fee 1 {": {Err: syntax, Line: 1, Col: 57},
		"fee 1 from;": {Err: syntax, Line: 1, Col: 61}, "fee 1 from 1;": {Err: syntax, Line: 1, Col: 62}, "fee 1 from 2024-01-01 2024-01-02;": {Err: syntax, Line: 1, Col: 73}, "fee 1 from 2024-01-01 to;": {Err: syntax, Line: 1, Col: 75}, "fee 1 from 2024-01-01 to 2024-01-02 from": {Err: syntax, Line: 1, Col: 87},
		"fee 1.5;": {Err: syntax, Line: 1, Col: 55}, "fee 1.0;": {Err: syntax, Line: 1, Col: 55}, "fee 1000000000000.0;": {Err: syntax, Line: 1, Col: 55}, "fee 1000000000000": {Err: syntax, Line: 1, Col: 68}, "fee 1000000000001": {Err: limit, Line: 1, Col: 55}, "fee 9999999999999.5": {Err: syntax, Line: 1, Col: 55},
		"fee 1000000000001 x": {Err: limit, Line: 1, Col: 55}, "fee x 1000000000001;": {Err: syntax, Line: 1, Col: 55}, "fee 1; fee 1 x; fee 1.5;": {Err: syntax, Line: 1, Col: 64}, "1000000000001": {Err: syntax, Line: 1, Col: 51},
		"meter": {Err: syntax, Line: 1, Col: 56}, "meter max unit u max 5;": {Err: syntax, Line: 1, Col: 57}, "meter m unit 5": {Err: syntax, Line: 1, Col: 64}, "meter m max 5;": {Err: syntax, Line: 1, Col: 59}, "meter m unit max 5;": {Err: syntax, Line: 1, Col: 64}, "meter m unit u 5;": {Err: syntax, Line: 1, Col: 66}, "meter m unit u max 5.0;": {Err: syntax, Line: 1, Col: 70}, "meter m unit u max 2001;": {Err: limit, Line: 1, Col: 70}, "meter m unit u max 5 fee": {Err: syntax, Line: 1, Col: 72},
		"charge;": {Err: syntax, Line: 1, Col: 57}, "charge m;": {Err: syntax, Line: 1, Col: 59}, "charge m {}": {Err: syntax, Line: 1, Col: 61}, "charge m { block 1; block": {Err: syntax, Line: 1, Col: 71}, "charge m { allowance 1; allowance": {Err: syntax, Line: 1, Col: 75}, "charge m { block 1; allowance": {Err: syntax, Line: 1, Col: 71}, "charge m { allowance 1000001;": {Err: limit, Line: 1, Col: 72}, "charge m { block 1000001;": {Err: limit, Line: 1, Col: 68}, "charge m { allowance 1 block": {Err: syntax, Line: 1, Col: 74},
		"charge m { volume {}": {Err: syntax, Line: 1, Col: 70}, "charge m { volume rest": {Err: syntax, Line: 1, Col: 69}, "charge m { volume { rest 5;": {Err: syntax, Line: 1, Col: 76}, "charge m { volume { rest rate 5 }": {Err: syntax, Line: 1, Col: 83}, "charge m { volume { rest rate 5; rest": {Err: syntax, Line: 1, Col: 84}, "charge m { volume { rest rate 5; upto": {Err: syntax, Line: 1, Col: 84}, "charge m { volume { upto 5 rate 5; }": {Err: syntax, Line: 1, Col: 86}, "charge m { volume { upto 5; rate": {Err: syntax, Line: 1, Col: 77}, "charge m { volume { upto 1000001 rate": {Err: limit, Line: 1, Col: 76}, "charge m { volume { upto 0.5 rate": {Err: syntax, Line: 1, Col: 76},
		"charge m { volume { rest rate 5; } }": {Err: syntax, Line: 1, Col: 86}, "charge m { volume { rest rate 5; } volume": {Err: syntax, Line: 1, Col: 86}, "charge m { volume { rest rate 5; } cap 5;": {Err: syntax, Line: 1, Col: 86}, "charge m { volume { rest rate 5; } round;": {Err: syntax, Line: 1, Col: 91}, "charge m { volume { rest rate 5; } round down;": {Err: syntax, Line: 1, Col: 92}, "charge m { volume { rest rate 5; } round floor }": {Err: syntax, Line: 1, Col: 98}, "charge m { volume { rest rate 5; } round floor;": {Err: syntax, Line: 1, Col: 98}, "charge m { volume { rest rate 5; } round floor; round": {Err: syntax, Line: 1, Col: 99},
		"charge m { volume { rest rate 5; } round floor; percent 5;": {Err: syntax, Line: 1, Col: 108}, "charge m { volume { rest rate 5; } round floor; percent floor;": {Err: syntax, Line: 1, Col: 107}, "charge m { volume { rest rate 5; } round floor; cap 5 ceil;": {Err: syntax, Line: 1, Col: 105}, "charge m { volume { rest rate 5; } round floor; add 5 }": {Err: syntax, Line: 1, Col: 105}, "charge m { volume { rest rate 5; } round floor; } }": {Err: syntax, Line: 1, Col: 101}, "charge m { volume { rest rate 5; } round floor; fee 5; }": {Err: syntax, Line: 1, Col: 99},
	} {
		p, e := parse.Parse(head + s)
		if e != want || told(p) != told(api.Plan{}) {
			t.Errorf("%q: %s, %v, not %v", s, told(p), e, want)
		}
		hold(t, head+s)
	}
}

// P7.1: numbers of each word, about their bounds, with places and too many of them, and beyond 64 bits.
func TestNumbers(t *testing.T) {
	tokens := cut(full)
	seen := map[string]bool{}
	for i, word := range tokens {
		limit, ok := numbers[word]
		if !ok || seen[word] || tokens[i+1][0] > '9' {
			continue
		}
		seen[word] = true
		unit := int64(1)
		for range limit.places {
			unit *= 10
		}
		most := limit.most / unit
		digits := strings.Repeat("0", limit.places)
		for s, want := range map[string]api.Errno{
			"0": 0, "1": 0, fmt.Sprint(most - 1): 0, fmt.Sprint(most): 0, fmt.Sprint(most + 1): 6, fmt.Sprint(10 * most): 6, fmt.Sprint(-1): 3, "+1": 3, "00": 3, "1.": 3, "1e3": 3,
			"9223372036854775807": 6, "9223372036854775808": 6, "18446744073709551615": 6, "18446744073709551616": 6, "18446744073709551617": 6, "184467440737095516160": 6, "1" + strings.Repeat("0", 5000): 6,
			fmt.Sprint(most) + "." + digits + "0": 4, fmt.Sprint(most+1) + "." + digits + "0": 4, "0." + digits + "1": 4, "0." + strings.Repeat("0", 5000): 4, "18446744073709551617." + digits + "0": 4,
		} {
			check(t, tokens, i+1, s, want)
		}
		for places := 1; places <= limit.places; places++ {
			check(t, tokens, i+1, fmt.Sprint(most)+"."+digits[:places], 0)
			check(t, tokens, i+1, fmt.Sprint(most)+"."+digits[:places-1]+"1", 6)
			check(t, tokens, i+1, fmt.Sprint(most-1)+"."+strings.Repeat("9", places), 0)
			check(t, tokens, i+1, "18446744073709551617."+digits[:places], 6)
		}
	}
	if len(seen) != len(numbers) {
		t.Errorf("%v", seen)
	}
}

// check: with another token at a place there is this error, there.
func check(t *testing.T, tokens []string, i int, other string, want api.Errno) {
	t.Helper()
	ahead := strings.Join(tokens[:i], " ") + " "
	s := ahead + other + " " + strings.Join(tokens[i+1:], " ")
	fault := hold(t, s)
	if fault.Err != want || want != 0 && fault != (api.Fault{Err: want, Line: 1, Col: len(ahead) + 1}) {
		t.Errorf("%.20s behind %q: %v, not %d", other, tokens[i-1], fault, want)
	}
}

// P7.1, P7.2: a plan with any token put for one of its own, put in, left out, told twice, or put behind the next one; or broken off, anywhere.
func TestOneOtherToken(t *testing.T) {
	tokens := cut(full)
	join := func(parts ...[]string) string { return strings.Join(slices.Concat(parts...), "\n") }
	for i := range len(tokens) + 1 {
		hold(t, join(tokens[:i]))
		hold(t, join(tokens[i:]))
		for _, other := range samples() {
			hold(t, join(tokens[:i], []string{other}))
			hold(t, join(tokens[:i], []string{other}, tokens[i:]))
			if i < len(tokens) {
				hold(t, join(tokens[:i], []string{other}, tokens[i+1:]))
			}
		}
		if i < len(tokens) {
			hold(t, join(tokens[:i], tokens[i+1:]))
			hold(t, join(tokens[:i+1], tokens[i:]))
		}
		if i+1 < len(tokens) {
			hold(t, join(tokens[:i], tokens[i+1:i+2], tokens[i:i+1], tokens[i+2:]))
		}
	}
}

// P7.1, P7.2: any two tokens behind any beginning of a plan.
func TestTwoTokens(t *testing.T) {
	tokens := cut(head + "meter m unit u max 1; fee 1 from 2024-01-01 to 2024-01-02; charge m { allowance 1; block 1; volume { upto 1 rate 1; rest rate 1; } round ceil; percent 1 floor; cap 1; } ")
	for i := range len(tokens) + 1 {
		ahead := strings.Join(tokens[:i], " ") + " "
		for _, a := range samples() {
			if fault := hold(t, ahead+a); fault.Err != 0 && fault.Col == len(ahead)+1 {
				// What stands behind the first fault says nothing more.
				continue
			}
			for _, b := range samples() {
				hold(t, ahead+a+" "+b)
			}
		}
	}
}

// P7.1, P7.2: any piece of a plan left out, or told twice.
func TestPieces(t *testing.T) {
	tokens := cut(full)
	for i := range tokens {
		for j := i; j <= len(tokens); j++ {
			hold(t, strings.Join(tokens[:i], " ")+" "+strings.Join(tokens[j:], " "))
			hold(t, strings.Join(tokens[:j], " ")+" "+strings.Join(tokens[i:], " "))
		}
	}
}

// P7.1, P7.2: a plan with any one byte put for one of its own, put in, or left out.
func TestOneOtherLetter(t *testing.T) {
	for i := range len(full) {
		hold(t, full[:i])
		hold(t, full[i:])
		hold(t, full[:i]+full[i+1:])
		for _, c := range []byte("{};# \n\t\r_.-0159amxAZ!\x00\xff") {
			hold(t, full[:i]+string([]byte{c})+full[i+1:])
			hold(t, full[:i]+string([]byte{c})+full[i:])
		}
	}
}

// P7.2: all texts of few letters, and of few tokens.
func TestAllShortTexts(t *testing.T) {
	for _, row := range rows(4, "p", "1", " ", ";", "\n", "#", "plan", "-", "\xe9") {
		hold(t, strings.Join(row, ""))
	}
	for _, row := range rows(2, samples()...) {
		hold(t, strings.Join(row, " "))
	}
}

// rows: all rows of up to so many of the values.
func rows(most int, values ...string) [][]string {
	all := [][]string{{}}
	last := all
	for range most {
		var next [][]string
		for _, row := range last {
			for _, v := range values {
				next = append(next, append(slices.Clone(row), v))
			}
		}
		all, last = append(all, next...), next
	}
	return all
}

// P7.1: layer 5's fault counts, wherever it stands, and whatever else is wrong.
func TestLexFaults(t *testing.T) {
	long := strings.Repeat(" ", api.MaxText)
	for s, want := range map[string]api.Fault{
		"!":                           {Err: api.ErrLex, Line: 1, Col: 1},
		"x y z !":                     {Err: api.ErrLex, Line: 1, Col: 7},
		"fee 1.5; }\n 1x":             {Err: api.ErrLex, Line: 2, Col: 2},
		head + "fee 1000000000001 !":  {Err: api.ErrLex, Line: 1, Col: 69},
		head + "fee 007;":             {Err: api.ErrLex, Line: 1, Col: 55},
		head + "fee -1;":              {Err: api.ErrLex, Line: 1, Col: 55},
		full + "2023-02-29":           {Err: api.ErrLex, Line: 12, Col: 1},
		full + "é":                    {Err: api.ErrLex, Line: 12, Col: 1},
		"plan 2024-02-30 ! 1x":        {Err: api.ErrLex, Line: 1, Col: 6},
		long + " ":                    {Err: api.ErrLimit, Line: 1, Col: 1},
		full + long:                   {Err: api.ErrLimit, Line: 1, Col: 1},
		"!" + long:                    {Err: api.ErrLimit, Line: 1, Col: 1},
		"\n x" + long:                 {Err: api.ErrLimit, Line: 1, Col: 1},
		long:                          {Err: api.ErrSyntax, Line: 1, Col: api.MaxText + 1},
		long[1:] + "!":                {Err: api.ErrLex, Line: 1, Col: api.MaxText},
		long[1:] + "}":                {Err: api.ErrSyntax, Line: 1, Col: api.MaxText},
		strings.Repeat("\n", 1<<13):   {Err: api.ErrSyntax, Line: 1<<13 + 1, Col: 1},
		strings.Repeat("#", 1<<13+1):  {Err: api.ErrLimit, Line: 1, Col: 1},
		strings.Repeat("x", 1<<13):    {Err: api.ErrSyntax, Line: 1, Col: 1},
		"plan " + long[len("plan "):]: {Err: api.ErrSyntax, Line: 1, Col: api.MaxText + 1},
	} {
		if p, e := parse.Parse(s); e != want || told(p) != told(api.Plan{}) {
			t.Errorf("%.80q: %s, %v, not %v", s, told(p), e, want)
		}
		hold(t, s)
	}
}

// P7.1: very many of everything, up to what a text holds: layer 9 bounds them, not this one.
func TestMany(t *testing.T) {
	charge := func(tiers, adjusts string) string {
		return "charge m{volume{" + tiers + "rest rate 1;}round ceil;" + adjusts + "}"
	}
	for _, c := range []struct {
		ahead, piece, behind string
		times                int
	}{
		{"", "fee 1;", "", 1300},
		{"", "fee 1 from 2024-01-01 to 2024-01-02;\n", "", 200},
		{"", "meter m unit u max 9;", "", 380},
		{"", charge("", ""), "", 190},
		{"charge m{volume{", "upto 1 rate 1;", "rest rate 1;}round ceil;}", 570},
		{"charge m{volume{rest rate 1;}round ceil;", "add 1;", "}", 1300},
		{"charge m{volume{rest rate 1;}round ceil;", "percent 1 floor;", "}", 500},
	} {
		s := head + c.ahead + strings.Repeat(c.piece, c.times) + c.behind
		p, e := parse.Parse(s)
		n := len(p.Fees) + len(p.Meters) + len(p.Charges)
		if c.behind != "" {
			n = len(p.Charges[0].Tiers) + len(p.Charges[0].Adjusts) - 1
		}
		if e != (api.Fault{}) || n != c.times {
			t.Errorf("%.80q: %d, not %d; %v", s, n, c.times, e)
		}
		hold(t, s)
		hold(t, s+"fee 1.5;")
		hold(t, s+"x")
	}
	// The longest text that may be, and one byte more.
	most := head + strings.Repeat("fee 1;", 1357)
	if len(most) != api.MaxText || hold(t, most) != (api.Fault{}) || hold(t, most+" ") != (api.Fault{Err: api.ErrLimit, Line: 1, Col: 1}) {
		t.Errorf("%d bytes", len(most))
	}
}

// P7.1: plans made at random, whatever stands between their tokens, and with one token of them left out.
func TestRandom(t *testing.T) {
	r := rand.New(rand.NewSource(7))
	gaps := []string{" ", "\n", "\t", "\r\n", " # }\n", "\n\n  ", " \t "}
	for range 3000 {
		tokens := randomPlan(r)
		if fault := hold(t, spaced(r, tokens, gaps)); fault != (api.Fault{}) {
			t.Fatalf("%q: %v", tokens, fault)
		}
		i := r.Intn(len(tokens))
		hold(t, spaced(r, append(slices.Clone(tokens[:i]), tokens[i+1:]...), gaps))
	}
}

// spaced: tokens with something between.
func spaced(r *rand.Rand, tokens, gaps []string) string {
	var s strings.Builder
	for _, token := range tokens {
		s.WriteString(gaps[r.Intn(len(gaps))] + token)
	}
	return s.String()
}

// randomPlan: the tokens of a plan.
func randomPlan(r *rand.Rand) []string {
	name := func() string { return []string{"a", "m", "_x", "EUR", "Plan", "fees", "k9"}[r.Intn(7)] }
	whole := func(most int) string { return fmt.Sprint(r.Intn(most + 1)) }
	date := func() string { return fmt.Sprintf("%04d-%02d-%02d", 1+r.Intn(9999), 1+r.Intn(12), 1+r.Intn(28)) }
	pointed := func(most, places int) string {
		return fmt.Sprintf("%d.%0*d", r.Intn(most), places, r.Intn(1000)%10)
	}
	mode := func() string { return []string{"floor", "ceil", "halfup", "halfeven"}[r.Intn(4)] }
	window := func() string {
		if r.Intn(2) == 0 {
			return ""
		}
		return " from " + date() + " to " + date()
	}
	charge := func() string {
		s := "charge " + name() + window() + " {"
		if r.Intn(2) == 0 {
			s += " allowance " + whole(1000000) + ";"
		}
		if r.Intn(2) == 0 {
			s += " block " + whole(1000000) + ";"
		}
		s += []string{" graduated {", " volume {"}[r.Intn(2)]
		for range r.Intn(4) {
			s += " upto " + whole(1000000) + " rate " + pointed(1000000, 1+r.Intn(6)) + ";"
		}
		s += " rest rate " + whole(1000000) + "; } round " + mode() + ";"
		for range r.Intn(4) {
			s += []string{" percent " + pointed(100000, 1+r.Intn(3)) + " " + mode(), " cap " + whole(1000000000000), " minimum " + whole(100), " add " + whole(100)}[r.Intn(4)] + ";"
		}
		return s + " }"
	}
	s := "plan " + name() + " currency " + name() + "; horizon " + date() + " " + date() + ";"
	for range r.Intn(6) {
		s += []string{" meter " + name() + " unit " + name() + " max " + whole(2000) + ";", " fee " + whole(1000000000000) + window() + ";", " " + charge()}[r.Intn(3)]
	}
	return cut(s)
}

// The lists of two answers share nothing, spare room included.
func TestNewMemory(t *testing.T) {
	a, _ := parse.Parse(full)
	b, _ := parse.Parse(full)
	want := told(b)
	for i := range a.Charges {
		clear(a.Charges[i].Tiers[:cap(a.Charges[i].Tiers)])
		clear(a.Charges[i].Adjusts[:cap(a.Charges[i].Adjusts)])
	}
	clear(a.Meters[:cap(a.Meters)])
	clear(a.Fees[:cap(a.Fees)])
	clear(a.Charges[:cap(a.Charges)])
	if got := told(b); got != want {
		t.Errorf("%s, not %s", got, want)
	}
	c, _ := parse.Parse(full)
	if got := told(c); got != want {
		t.Errorf("%s, not %s", got, want)
	}
}

// The text isn't kept: no name of a plan lies within it.
func TestNotKept(t *testing.T) {
	s := strings.Clone(full)
	from := uintptr(unsafe.Pointer(unsafe.StringData(s)))
	p, _ := parse.Parse(s)
	for _, name := range []string{p.Name, p.Currency, p.Meters[0].Name, p.Meters[0].Unit, p.Charges[0].Meter} {
		at := uintptr(unsafe.Pointer(unsafe.StringData(name)))
		if at >= from && at < from+uintptr(len(s)) {
			t.Errorf("%s", name)
		}
	}
}
