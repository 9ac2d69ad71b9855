package parse_test

import (
	"fmt"
	"math/big"
	"regexp"
	"strconv"
	"strings"
	"testing"

	"poundage/api"
	"poundage/lex"
	"poundage/parse"
)

// grammar: the document's own.
const grammar = `
text   = "plan" Name "currency" Name ";" "horizon" Day Day ";" { item }
item   = "meter" Name "unit" Name "max" Number ";" | "fee" Number [ window ] ";"
       | "charge" Name [ window ] "{" [ "allowance" Number ";" ] [ "block" Number ";" ]
         ("graduated" | "volume") tiers "round" mode ";" { adjust } "}"
window = "from" Day "to" Day
tiers  = "{" { "upto" Number "rate" Number ";" } "rest" "rate" Number ";" "}"
adjust = "percent" Number mode ";" | "cap" Number ";" | "minimum" Number ";" | "add" Number ";"
mode   = "floor" | "ceil" | "halfup" | "halfeven"
`

// numbers: how many places, and how much at most, what stands behind each word has.
var numbers = map[string]struct {
	places int
	most   int64
}{
	"max": {0, 2000}, "fee": {0, 1000000000000}, "allowance": {0, 1000000}, "block": {0, 1000000}, "upto": {0, 1000000}, "rate": {6, 1000000000000},
	"percent": {3, 100000000}, "cap": {0, 1000000000000}, "minimum": {0, 1000000000000}, "add": {0, 1000000000000},
}

// walk: tokens that are gone over, and the furthest at which anything was looked for.
type walk struct {
	tokens   []lex.Token
	furthest int
}

// rule: goes from a token on in each way that there is, and from where that ends on, up to the first way of which then is content.
type rule func(w *walk, at int, then func(int) bool) bool

// one: the rule of a single token.
func one(is func(lex.Token) bool) rule {
	return func(w *walk, at int, then func(int) bool) bool {
		w.furthest = max(w.furthest, at)
		return is(w.tokens[at]) && then(at+1)
	}
}

// nothing: the rule of no token.
func nothing(w *walk, at int, then func(int) bool) bool { return then(at) }

// behind: the rule of a and then b.
func behind(a, b rule) rule {
	return func(w *walk, at int, then func(int) bool) bool {
		return a(w, at, func(n int) bool { return b(w, n, then) })
	}
}

// either: the rule of a or b.
func either(a, b rule) rule {
	return func(w *walk, at int, then func(int) bool) bool {
		return a(w, at, then) || b(w, at, then)
	}
}

// often: the rule of a as often as it goes, or not at all.
func often(a rule) rule {
	var again rule
	again = func(w *walk, at int, then func(int) bool) bool {
		return a(w, at, func(n int) bool { return again(w, n, then) }) || then(at)
	}
	return again
}

// maker makes rules of a grammar's pieces.
type maker struct {
	pieces []string
	bodies map[string]string
}

var (
	bodies = regexp.MustCompile(`(?m)^(\w+) *= (.*(?:\n +.*)*)`)
	pieces = regexp.MustCompile(`"[^"]*"|\w+|[][{}()|]`)
)

// ruleOf: a grammar's rule of a name.
func ruleOf(name string) rule {
	m := maker{bodies: map[string]string{}}
	for _, b := range bodies.FindAllStringSubmatch(grammar, -1) {
		m.bodies[b[1]] = b[2]
	}
	return m.named(name)
}

// named: the rule of a name, or of a kind of tokens.
func (m *maker) named(name string) rule {
	if kind, ok := map[string]lex.Kind{"Name": lex.Name, "Number": lex.Number, "Day": lex.Day}[name]; ok {
		return one(func(t lex.Token) bool { return t.Kind == kind })
	}
	within := maker{pieces: pieces.FindAllString(m.bodies[name], -1), bodies: m.bodies}
	return within.ways()
}

// ways: what stands between strokes, up to where it is closed.
func (m *maker) ways() rule {
	r := m.row()
	for len(m.pieces) > 0 && m.pieces[0] == "|" {
		m.pieces = m.pieces[1:]
		r = either(r, m.row())
	}
	return r
}

// row: one behind the other, up to a stroke, or where it is closed.
func (m *maker) row() rule {
	r := rule(nothing)
	for len(m.pieces) > 0 && !strings.Contains("|)]}", m.pieces[0]) {
		r = behind(r, m.single())
	}
	return r
}

// single: a word, a name, or what stands within brackets.
func (m *maker) single() rule {
	p := m.pieces[0]
	m.pieces = m.pieces[1:]
	if text, ok := strings.CutPrefix(p, `"`); ok {
		text = strings.TrimSuffix(text, `"`)
		return one(func(t lex.Token) bool { return t.Text == text })
	}
	if !strings.Contains("([{", p) {
		return m.named(p)
	}
	r := m.ways()
	m.pieces = m.pieces[1:]
	switch p {
	case "[":
		return either(r, nothing)
	case "{":
		return often(r)
	}
	return r
}

// text: the rule of all of a text.
var text = behind(ruleOf("text"), one(func(t lex.Token) bool { return t.Kind == lex.End }))

// scaled: a number, times 10 as often as there are places; false: it has more of them.
func scaled(s string, places int) (*big.Int, bool) {
	whole, behind, _ := strings.Cut(s, ".")
	if len(behind) > places {
		return nil, false
	}
	n, _ := new(big.Int).SetString(whole+behind+strings.Repeat("0", places-len(behind)), 10)
	return n, true
}

// errorOf: what is wrong with a number, by the word ahead of it.
func errorOf(word, number string) api.Errno {
	n, ok := scaled(number, numbers[word].places)
	switch {
	case !ok:
		return 4
	case n.Cmp(big.NewInt(numbers[word].most)) > 0:
		return 6
	}
	return 0
}

// faultOf: what Parse has to find wrong with tokens, by the second telling.
func faultOf(tokens []lex.Token) api.Fault {
	w := walk{tokens: tokens}
	fits := text(&w, 0, func(int) bool { return true })
	// Each token ahead of the furthest one can go on what stands ahead of it: there numbers alone may be wrong.
	for i, t := range tokens[:w.furthest] {
		if t.Kind != lex.Number {
			continue
		}
		if err := errorOf(tokens[i-1].Text, t.Text); err != 0 {
			return api.Fault{Err: err, Line: t.Line, Col: t.Col}
		}
	}
	if fits {
		return api.Fault{}
	}
	t := tokens[w.furthest]
	return api.Fault{Err: 4, Line: t.Line, Col: t.Col}
}

// The forms of what a plan is made of, its tokens having one blank between.
var (
	headForm   = regexp.MustCompile(`^plan (\S+) currency (\S+) ; horizon (\S+) (\S+) ;`)
	meterForm  = regexp.MustCompile(` meter (\S+) unit (\S+) max (\S+) ;`)
	feeForm    = regexp.MustCompile(` fee (\S+)(?: from (\S+) to (\S+))? ;`)
	chargeForm = regexp.MustCompile(` charge (\S+)(?: from (\S+) to (\S+))? \{(?: allowance (\S+) ;)?(?: block (\S+) ;)? (\S+) \{([^}]*)\} round (\S+) ;([^}]*)\}`)
	tierForm   = regexp.MustCompile(`(?:upto (\S+)|rest) rate (\S+) ;`)
	adjustForm = regexp.MustCompile(`(\S+) (\d\S*)(?: (\w+))? ;`)
)

// planOf: the plan of tokens with which nothing is wrong, by the second telling.
func planOf(tokens []lex.Token) api.Plan {
	var texts []string
	places := map[string][]lex.Token{}
	for _, t := range tokens {
		texts = append(texts, t.Text)
		places[t.Text] = append(places[t.Text], t)
	}
	s := strings.Join(texts, " ")
	h := headForm.FindStringSubmatch(s)
	p := api.Plan{Name: h[1], Currency: h[2], From: dayOf(h[3]), To: dayOf(h[4]), Line: tokens[0].Line, Col: tokens[0].Col}
	for i, m := range meterForm.FindAllStringSubmatch(s, -1) {
		at := places["meter"][i]
		p.Meters = append(p.Meters, api.Meter{Name: m[1], Unit: m[2], Max: numberOf(m[3], 0), Line: at.Line, Col: at.Col})
	}
	for i, f := range feeForm.FindAllStringSubmatch(s, -1) {
		at := places["fee"][i]
		p.Fees = append(p.Fees, api.Fee{Amount: numberOf(f[1], 0), Window: windowOf(f[2], f[3]), Line: at.Line, Col: at.Col})
	}
	for i, c := range chargeForm.FindAllStringSubmatch(s, -1) {
		at := places["charge"][i]
		p.Charges = append(p.Charges, chargeOf(c, at))
	}
	return p
}

// chargeOf: the charge of a form's pieces, and its place.
func chargeOf(c []string, at lex.Token) api.Charge {
	x := api.Charge{Meter: c[1], Window: windowOf(c[2], c[3]), Allowance: numberOf(c[4], 0), Block: 1, Kind: 1, Mode: modeOf(c[8]), Line: at.Line, Col: at.Col}
	if c[5] != "" {
		x.Block = numberOf(c[5], 0)
	}
	if c[6] == "volume" {
		x.Kind = 2
	}
	for _, r := range tierForm.FindAllStringSubmatch(c[7], -1) {
		x.Tiers = append(x.Tiers, api.Tier{Upto: numberOf(r[1], 0), Rate: numberOf(r[2], 6)})
	}
	for _, a := range adjustForm.FindAllStringSubmatch(c[9], -1) {
		kind := map[string]int{"percent": 1, "cap": 2, "minimum": 3, "add": 4}[a[1]]
		x.Adjusts = append(x.Adjusts, api.Adjust{Kind: kind, N: numberOf(a[2], numbers[a[1]].places), Mode: modeOf(a[3])})
	}
	return x
}

// numberOf, dayOf, windowOf, modeOf: what texts tell; 0, or empty, of none.
func numberOf(s string, places int) int {
	if s == "" {
		return 0
	}
	n, _ := scaled(s, places)
	return int(n.Int64())
}

func dayOf(s string) api.Date {
	part := func(s string) int {
		n, _ := strconv.Atoi(s)
		return n
	}
	return api.Date{Year: part(s[:4]), Month: part(s[5:7]), Day: part(s[8:])}
}

func windowOf(from, to string) api.Window {
	if from == "" {
		return api.Window{}
	}
	return api.Window{Has: true, From: dayOf(from), To: dayOf(to)}
}

func modeOf(s string) int {
	return map[string]int{"": 0, "floor": 0, "ceil": 1, "halfup": 2, "halfeven": 3}[s]
}

// told: all that is in a plan; a row that is nil is told as an empty one.
func told(p api.Plan) string { return fmt.Sprintf("%+v", p) }

// hold: Parse of a text, held against what it has to answer: the plan and no fault, or none and the fault. Answers the fault.
func hold(t *testing.T, s string) api.Fault {
	t.Helper()
	var want api.Plan
	tokens, fault := lex.Lex(s)
	if fault == (api.Fault{}) {
		if fault = faultOf(tokens); fault == (api.Fault{}) {
			want = planOf(tokens)
		}
	}
	got, e := parse.Parse(s)
	if e != fault || told(got) != told(want) {
		t.Fatalf("%.2000q: %s, %v, not %s, %v", s, told(got), e, told(want), fault)
	}
	return fault
}
