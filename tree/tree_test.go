package tree_test

import (
	"bytes"
	"fmt"
	"math"
	"reflect"
	"slices"
	"strings"
	"testing"

	"poundage/api"
	"poundage/tree"
)

// year: the days of a year, as a window.
func year(n int) api.Window {
	return api.Window{Has: true, From: api.Date{Year: n, Month: 1, Day: 1}, To: api.Date{Year: n, Month: 12, Day: 31}}
}

// full: a plan that has some of everything, with no place like another one.
func full() api.Plan {
	return api.Plan{
		Name: "p", Currency: "EUR", From: api.Date{Year: 2024, Month: 2, Day: 3}, To: api.Date{Year: 2025, Month: 4, Day: 5}, Line: 1, Col: 2,
		Meters: []api.Meter{
			{Name: "m", Unit: "kWh", Max: 9, Line: 3, Col: 4},
			{Name: "a", Unit: "l", Max: 2000, Line: 5, Col: 6},
		},
		Fees: []api.Fee{
			{Amount: 5, Line: 7, Col: 8},
			{Amount: 6, Window: year(2024), Line: 9, Col: 10},
		},
		Charges: []api.Charge{
			{
				Meter: "m", Window: year(2025), Allowance: 1, Block: 2, Kind: api.Graduated, Mode: api.Ceil, Line: 11, Col: 12,
				Tiers:   []api.Tier{{Upto: 3, Rate: 4}, {Rate: 5}},
				Adjusts: []api.Adjust{{Kind: api.Percent, N: 6, Mode: api.HalfUp}, {Kind: api.Cap, N: 7}},
			},
			{
				Meter: "a", Block: 1, Kind: api.Volume, Mode: api.HalfEven, Line: 13, Col: 14,
				Tiers: []api.Tier{{Rate: 8}},
			},
		},
	}
}

// odd: a plan as no text tells it.
func odd() api.Plan {
	return api.Plan{
		Name: "\xff\x00", Currency: " ", From: api.Date{Year: -1, Month: 13, Day: 32}, Line: -1, Col: math.MinInt,
		Meters:  []api.Meter{{}, {}, {Name: "\xff", Max: -1, Line: math.MaxInt}, {}, {}, {}},
		Fees:    []api.Fee{{Amount: math.MinInt, Window: api.Window{To: api.Date{Day: -7}}}, {}, {Col: -1}},
		Charges: []api.Charge{{Block: -1, Kind: 99, Mode: -9, Tiers: make([]api.Tier, 20), Adjusts: make([]api.Adjust, 20)}, {}},
	}
}

// walk: shows all that is within a value, itself first, with the names of its fields.
func walk(name string, v reflect.Value, show func(name string, v reflect.Value)) {
	show(name, v)
	switch v.Kind() {
	case reflect.Struct:
		for i := range v.NumField() {
			walk(v.Type().Field(i).Name, v.Field(i), show)
		}
	case reflect.Slice:
		for i := range v.Len() {
			walk(name, v.Index(i), show)
		}
	}
}

// isPlace: whether a field tells where something stands.
func isPlace(name string) bool { return name == "Line" || name == "Col" }

// told: all that is in a plan, as a text; with its places, or without them.
func told(p api.Plan, places bool) string {
	var text strings.Builder
	walk("", reflect.ValueOf(p), func(name string, v reflect.Value) {
		switch {
		case isPlace(name) && !places || v.Kind() == reflect.Struct:
		case v.Kind() == reflect.Slice:
			fmt.Fprintf(&text, "%s %d: ", name, v.Len())
		default:
			fmt.Fprintf(&text, "%s %#v; ", name, v.Interface())
		}
	})
	return text.String()
}

// others: values of its kind beside a value: greater and lesser ones, and the ends.
func others(v reflect.Value) []any {
	switch v.Kind() {
	case reflect.Int:
		n := int(v.Int())
		return []any{n + 1, n - 1, -n - 1, n ^ math.MinInt, n + 1<<32, 0, math.MaxInt, math.MinInt}
	case reflect.String:
		s := v.String()
		return []any{s + "x", "x" + s, s + "\x00", s + " ", "", "\xff", "\ufffd"}
	case reflect.Bool:
		return []any{!v.Bool()}
	case reflect.Slice:
		list := []any{reflect.Zero(v.Type()).Interface(), reflect.MakeSlice(v.Type(), 0, 0).Interface(), longer(v)}
		if n := v.Len(); n > 0 {
			list = append(list, v.Slice(0, n-1).Interface(), v.Slice(1, n).Interface(), reflect.AppendSlice(v.Slice(n-1, n), v.Slice(0, n-1)).Interface())
		}
		return list
	}
	return nil
}

// longer: a row with an empty one more.
func longer(v reflect.Value) any {
	return reflect.Append(v.Slice3(0, v.Len(), v.Len()), reflect.Zero(v.Type().Elem())).Interface()
}

// variant: a plan, one of whose fields, or rows, isn't as it was; all that is in it, without places, and in its Plain.
type variant struct {
	plan  api.Plan
	name  string
	bare  string
	plain string
}

// variants: a plan itself, and all plans that come of one other field, or row.
func variants(maker func() api.Plan) []variant {
	var list []variant
	add := func(name string, p api.Plan) {
		list = append(list, variant{p, name, told(p, false), told(tree.Plain(p), true)})
	}
	add("itself", maker())
	first := maker()
	for i, field := range within(&first) {
		for _, other := range others(field.value) {
			p := maker()
			within(&p)[i].value.Set(reflect.ValueOf(other))
			add(field.name, p)
		}
	}
	return list
}

// field: something within a plan, and its name.
type field struct {
	name  string
	value reflect.Value
}

// within: all that is within a plan, in order.
func within(p *api.Plan) []field {
	var list []field
	walk("Plan", reflect.ValueOf(p).Elem(), func(name string, v reflect.Value) {
		list = append(list, field{name, v})
	})
	return list
}

// makers: plans that have everything, nothing, and what no plan has.
func makers() []func() api.Plan {
	return []func() api.Plan{full, odd, func() api.Plan { return api.Plan{} }}
}

// P6.1, P6.2: Same of each two plans of which each has one field, or row, otherwise: yes just if they have the same but for places, and just if their Plains have the same in everything.
func TestSame(t *testing.T) {
	for _, maker := range makers() {
		list := variants(maker)
		for _, a := range list {
			for _, b := range list {
				if got := tree.Same(a.plan, b.plan); got != (a.bare == b.bare) || got != (a.plain == b.plain) {
					t.Fatalf("%s, %s: %v, of %v, %v", a.name, b.name, got, a.plan, b.plan)
				}
			}
		}
	}
}

// P6.1: Same where one field of a plan is otherwise: no, but where the field is a place.
func TestSameFields(t *testing.T) {
	seen := map[string]bool{}
	for _, v := range variants(full)[1:] {
		seen[v.name] = true
		same := isPlace(v.name) || v.bare == told(full(), false)
		if tree.Same(full(), v.plan) != same || tree.Same(v.plan, full()) != same {
			t.Errorf("%s: not %v: %v", v.name, same, v.plan)
		}
	}
	for _, name := range []string{"Name", "Currency", "Year", "Month", "Day", "Meters", "Unit", "Max", "Fees", "Amount", "Has", "Charges", "Meter", "Allowance", "Block", "Kind", "Tiers", "Upto", "Rate", "Mode", "Adjusts", "N", "Line", "Col"} {
		if !seen[name] {
			t.Errorf("%s wasn't changed", name)
		}
	}
}

// P6.1: Same of plans told ahead.
func TestSameTold(t *testing.T) {
	for name, c := range map[string]struct {
		turn func(p *api.Plan)
		same bool
	}{
		"nothing":                        {func(p *api.Plan) {}, true},
		"a fee of 5 more":                {func(p *api.Plan) { p.Fees = append(p.Fees, api.Fee{Amount: 5}) }, false},
		"a fee of 5 more in the fee":     {func(p *api.Plan) { p.Fees[0].Amount += 5 }, false},
		"another name":                   {func(p *api.Plan) { p.Name = "q" }, false},
		"days of a window that isn't":    {func(p *api.Plan) { p.Fees[0].Window.From.Day = 1 }, false},
		"a window without days":          {func(p *api.Plan) { p.Charges[1].Window.Has = true }, false},
		"meters turned round":            {func(p *api.Plan) { slices.Reverse(p.Meters) }, false},
		"fees turned round":              {func(p *api.Plan) { slices.Reverse(p.Fees) }, false},
		"charges turned round":           {func(p *api.Plan) { slices.Reverse(p.Charges) }, false},
		"tiers turned round":             {func(p *api.Plan) { slices.Reverse(p.Charges[0].Tiers) }, false},
		"adjustments turned round":       {func(p *api.Plan) { slices.Reverse(p.Charges[0].Adjusts) }, false},
		"places turned round":            {func(p *api.Plan) { p.Fees[0].Line, p.Fees[1].Line = p.Fees[1].Line, p.Fees[0].Line }, true},
		"no adjustments, empty, not nil": {func(p *api.Plan) { p.Charges[1].Adjusts = []api.Adjust{} }, true},
		"an adjustment that is none":     {func(p *api.Plan) { p.Charges[1].Adjusts = []api.Adjust{{}} }, false},
		"spare room":                     {func(p *api.Plan) { p.Fees = append(p.Fees, api.Fee{Amount: 5})[:2] }, true},
		"all places":                     {func(p *api.Plan) { *p = moved(*p) }, true},
	} {
		p := full()
		c.turn(&p)
		if tree.Same(p, full()) != c.same || tree.Same(full(), p) != c.same {
			t.Errorf("%s: not %v", name, c.same)
		}
	}
	if !tree.Same(api.Plan{}, api.Plan{Meters: []api.Meter{}, Fees: []api.Fee{}, Charges: []api.Charge{}}) || tree.Same(api.Plan{}, full()) || tree.Same(full(), odd()) {
		t.Error("empty, full, odd")
	}
}

// moved: a plan, all of whose places are others.
func moved(p api.Plan) api.Plan {
	walk("", reflect.ValueOf(&p).Elem(), func(name string, v reflect.Value) {
		if isPlace(name) {
			v.SetInt(v.Int() + 100)
		}
	})
	return p
}

// P6.1, P6.2: Plain of all these plans: all but places is the same, and those are 0; a plan is the same as itself, and as its Plain.
func TestPlain(t *testing.T) {
	for _, maker := range makers() {
		for _, v := range variants(maker) {
			before := told(v.plan, true)
			q := tree.Plain(v.plan)
			if got := told(q, false); got != v.bare {
				t.Fatalf("%s: %s, not %s", v.name, got, v.bare)
			}
			if got := told(v.plan, true); got != before {
				t.Fatalf("%s: the plan was %s, is %s", v.name, before, got)
			}
			for _, f := range within(&q) {
				if isPlace(f.name) && f.value.Int() != 0 {
					t.Fatalf("%s: %s is %d", v.name, f.name, f.value.Int())
				}
			}
			if !tree.Same(v.plan, v.plan) || !tree.Same(v.plan, q) || !tree.Same(q, v.plan) || told(tree.Plain(q), true) != v.plain {
				t.Fatalf("%s: %v isn't the same as its Plain %v", v.name, v.plan, q)
			}
		}
	}
}

// lists: all rows of a plan, each up to the end of its spare room.
func lists(p *api.Plan) []reflect.Value {
	var found []reflect.Value
	walk("", reflect.ValueOf(p).Elem(), func(_ string, v reflect.Value) {
		if v.Kind() == reflect.Slice {
			found = append(found, v.Slice(0, v.Cap()))
		}
	})
	return found
}

// roomy: a plan whose rows have spare room, in which something stands.
func roomy() api.Plan {
	p := full()
	p.Meters = append(p.Meters, api.Meter{Name: "spare", Line: 20})[:2]
	p.Fees = append(p.Fees, api.Fee{Amount: 21, Line: 21})[:2]
	p.Charges = append(p.Charges, api.Charge{Meter: "spare", Line: 22})[:2]
	p.Charges[0].Tiers = append(p.Charges[0].Tiers, api.Tier{Upto: 23})[:2]
	p.Charges[0].Adjusts = append(p.Charges[0].Adjusts, api.Adjust{N: 24})[:2]
	p.Charges[1].Adjusts = append(p.Charges[1].Adjusts, api.Adjust{N: 25})[:0]
	return p
}

// contents: all that stands in the rows of a plan, spare room included.
func contents(p *api.Plan) string {
	text := ""
	for _, v := range lists(p) {
		text += fmt.Sprintf("%#v\n", v.Interface())
	}
	return text
}

// What is handed in isn't changed, spare room included.
func TestUnchanged(t *testing.T) {
	p, q := roomy(), roomy()
	want := contents(&p)
	for name, call := range map[string]func(){
		"Same":  func() { tree.Same(p, q) },
		"Plain": func() { tree.Plain(p) },
		"Names": func() { tree.Names(p) },
		"Meter": func() { tree.Meter(p, "a") },
		"Each":  func() { tree.Each(p.Fees, q.Fees, func(a, b api.Fee) bool { return a == b }) },
		"Find":  func() { tree.Find(p.Fees, func(f api.Fee) bool { return f.Amount == 21 }) },
	} {
		call()
		if got := contents(&p); got != want {
			t.Errorf("%s: %s, not %s", name, got, want)
		}
	}
}

// The lists of Plain's answer share nothing with the plan, with another answer, nor with each other.
func TestPlainNewMemory(t *testing.T) {
	one := []api.Tier{{Upto: 1, Rate: 2}, {Rate: 3}}
	shared := roomy()
	shared.Charges[0].Tiers, shared.Charges[1].Tiers = one[:1], one
	for _, p := range []api.Plan{roomy(), shared} {
		before, earlier := contents(&p), tree.Plain(p)
		want := told(earlier, true)
		n := len(lists(&earlier))
		for i := range n {
			q := tree.Plain(p)
			found := lists(&q)
			for j := range found {
				if j != i && found[i].Cap() > 0 && found[j].Cap() > 0 && found[i].Pointer() == found[j].Pointer() {
					t.Errorf("rows %d and %d are one", i, j)
				}
			}
			found[i].Clear()
			if got := contents(&p); got != before {
				t.Fatalf("row %d: the plan was %s, is %s", i, before, got)
			}
			if got := told(earlier, true); got != want {
				t.Fatalf("row %d: an earlier answer was %s, is %s", i, want, got)
			}
		}
		for _, row := range lists(&p) {
			row.Clear()
		}
		if got := told(earlier, true); got != want {
			t.Fatalf("the answer was %s, is %s", want, got)
		}
	}
}

// rows: all rows of up to so many of the values.
func rows[T any](most int, values ...T) [][]T {
	all := [][]T{nil, {}}
	last := [][]T{nil}
	for range most {
		var next [][]T
		for _, row := range last {
			for _, v := range values {
				next = append(next, append(slices.Clone(row), v))
			}
		}
		all, last = append(all, next...), next
	}
	return all
}

// P6.1: Each of all short rows, by several functions, each asked of the two at one place, the first row's first.
func TestEach(t *testing.T) {
	list := rows(3, 0, 1, 2)
	for name, same := range map[string]func(a, b int) bool{
		"equal": func(a, b int) bool { return a == b },
		"less":  func(a, b int) bool { return a < b },
		"next":  func(a, b int) bool { return (a+1)%3 == b },
		"yes":   func(a, b int) bool { return true },
		"no":    func(a, b int) bool { return false },
	} {
		for _, a := range list {
			for _, b := range list {
				want := len(a) == len(b)
				for i := 0; want && i < len(a); i++ {
					want = same(a[i], b[i])
				}
				if got := tree.Each(a, b, same); got != want {
					t.Fatalf("%s, %v, %v: %v, not %v", name, a, b, got, want)
				}
			}
		}
	}
}

// P6.1: Each of rows of other types: of such, too, that the language doesn't hold against each other.
func TestEachTypes(t *testing.T) {
	length := func(a, b []int) bool { return len(a) == len(b) }
	if !tree.Each([][]int{{1}, nil, {2, 3}}, [][]int{{4}, {}, {5, 6}}, length) || tree.Each([][]int{{1}, {2}}, [][]int{{1}, {2, 3}}, length) {
		t.Error("rows")
	}
	is := func(a, b func() int) bool { return a() == b() }
	one, two := func() int { return 1 }, func() int { return 2 }
	if !tree.Each([]func() int{one, two}, []func() int{one, two}, is) || tree.Each([]func() int{one, two}, []func() int{one, one}, is) {
		t.Error("functions")
	}
	if !tree.Each([]string{"a", "b"}, []string{"a", "b"}, func(a, b string) bool { return a == b }) || tree.Each([]string{"a", "b"}, []string{"b", "a"}, func(a, b string) bool { return a == b }) {
		t.Error("texts")
	}
	if !tree.Each[any](nil, nil, nil) || !tree.Each([]int{}, nil, nil) || tree.Each([]int{1}, nil, nil) || tree.Each(nil, []int{1}, nil) {
		t.Error("rows of which nothing is to be asked")
	}
	a, b := make([]int, 100000), make([]int, 100000)
	equal := func(a, b int) bool { return a == b }
	if !tree.Each(a, b, equal) {
		t.Error("long rows")
	}
	b[len(b)-1] = 1
	if tree.Each(a, b, equal) || tree.Each(a, b[:len(b)-1], equal) || !tree.Each(a[1:], b[:len(b)-1], equal) {
		t.Error("long rows, unlike")
	}
}

// P6.1: Find in all short rows, of all values looked for.
func TestFind(t *testing.T) {
	for _, row := range rows(4, 0, 1, 2) {
		for wanted := range 8 {
			is := func(n int) bool { return wanted>>n&1 == 1 }
			want := -1
			for i := len(row) - 1; i >= 0; i-- {
				if is(row[i]) {
					want = i
				}
			}
			if got := tree.Find(row, is); got != want {
				t.Fatalf("%v, %b: %d, not %d", row, wanted, got, want)
			}
		}
	}
	if tree.Find[int](nil, nil) != -1 || tree.Find([][]int{{1}, {}, nil}, func(row []int) bool { return len(row) == 0 }) != 1 {
		t.Error("other rows")
	}
	long := make([]int, 100000)
	long[99999] = 1
	if tree.Find(long, func(n int) bool { return n == 1 }) != 99999 || tree.Find(long, func(n int) bool { return n == 2 }) != -1 {
		t.Error("long rows")
	}
}

// P6.1: Meter and Names, of all rows of up to four meters, some of one name.
func TestMeterNames(t *testing.T) {
	names := []string{"a", "B", "ab", "", "a\x00", "é", "\xff"}
	for _, row := range rows(4, names...) {
		var p api.Plan
		for i, name := range row {
			p.Meters = append(p.Meters, api.Meter{Name: name, Unit: "x", Max: i, Line: 10 - i})
		}
		for _, name := range append(names, "b", "x", "A", "a ", "\ufffd") {
			if got, want := tree.Meter(p, name), slices.Index(row, name); got != want {
				t.Fatalf("%q, %q: %d, not %d", row, name, got, want)
			}
		}
		want := slices.Clone(row)
		slices.SortFunc(want, func(a, b string) int { return bytes.Compare([]byte(a), []byte(b)) })
		if got := tree.Names(p); !slices.Equal(got, want) {
			t.Fatalf("%q: %q, not %q", row, got, want)
		}
		for i, m := range p.Meters {
			if m.Name != row[i] {
				t.Fatalf("%q: the plan's meters became %v", row, p.Meters)
			}
		}
	}
}

// P6.1: Meter and Names, of plans told ahead: units, charges, and the plan's own name are no meters' names.
func TestMeterNamesTold(t *testing.T) {
	p := full()
	p.Charges[0].Meter = "c"
	if tree.Meter(p, "m") != 0 || tree.Meter(p, "a") != 1 || !slices.Equal(tree.Names(p), []string{"a", "m"}) {
		t.Errorf("%d, %d, %q", tree.Meter(p, "m"), tree.Meter(p, "a"), tree.Names(p))
	}
	for _, name := range []string{"", "p", "EUR", "kWh", "l", "c", "M", "mm", "m ", " m"} {
		if got := tree.Meter(p, name); got != -1 {
			t.Errorf("%q: %d", name, got)
		}
	}
	var e api.Plan
	if tree.Meter(e, "") != -1 || tree.Meter(e, "m") != -1 || len(tree.Names(e)) != 0 {
		t.Error("no meters")
	}
	if tree.Meter(odd(), "") != 0 || tree.Meter(odd(), "\xff") != 2 || !slices.Equal(tree.Names(odd()), []string{"", "", "", "", "", "\xff"}) {
		t.Errorf("%d, %d, %q", tree.Meter(odd(), ""), tree.Meter(odd(), "\xff"), tree.Names(odd()))
	}
}

// Names of two answers share nothing.
func TestNamesNewMemory(t *testing.T) {
	a, b := tree.Names(full()), tree.Names(full())
	clear(a[:cap(a)])
	if !slices.Equal(b, []string{"a", "m"}) {
		t.Errorf("%q", b)
	}
}
