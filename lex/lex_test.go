package lex_test

import (
	"regexp"
	"slices"
	"strings"
	"testing"
	"time"

	"poundage/api"
	"poundage/lex"
)

// words: all of them, as the document names them.
const words = "plan currency horizon meter unit max fee charge from to allowance block graduated volume upto rate rest round floor ceil halfup halfeven percent cap minimum add"

// kinds: texts of each kind, told ahead.
var kinds = map[lex.Kind][]string{
	lex.Sign: {"{", "}", ";"},
	lex.Word: strings.Fields(words),
	lex.Name: {
		"a", "z", "A", "Z", "_", "__", "_9", "a9", "Z0", "p1", "m_1", "_plan", "x1y2_z3", "azAZ_09",
		"plans", "plan_", "plan1", "pla", "Plan", "PLAN", "planplan", "tos", "To", "t", "of", "end", "day", "half", "half_up", "halfUp", "minimums", "maximum", "sum", "days", "e", "NaN", "Inf", "true", "nil",
		strings.Repeat("a", 9000), "_" + strings.Repeat("0", 9000),
	},
	lex.Number: {
		"0", "9", "10", "12.50", "0.0", "0.50", "0.000", "100.001", "9223372036854775808", "1" + strings.Repeat("0", 9000), "0." + strings.Repeat("0", 9000),
	},
	lex.Day: {
		"0001-01-01", "2024-01-31", "2024-02-29", "2000-02-29", "1999-12-31", "9999-12-31",
	},
	lex.End: {
		"", " ", "\t", "\r", "\n", "\x00", "#", "# plan", "#\n", "{}", "};", ";;", "{ ", " {", "{\n", "plan ", " plan", "plan\n", "plan;", "plan{", "plan plan", "a b", "a\tb", "a#", "a;", "a\x00",
		"1x", "9a", "1_", "1_000", "1e3", "0x1", "00", "007", "01.5", "1.", ".5", ".", "..", "1..2", "1.2.3", "1.a", "a.b", "a.", ".a", "a.1", "_.", "1 ", " 1", "+1", "1,5",
		"-", "--", "-1", "1-", "1-2", "a-b", "a-", "-a", "half-up", "plan-", "-plan", "plan.", "_-_",
		"2024-02-30", "2023-02-29", "1900-02-29", "0000-01-01", "2024-00-01", "2024-13-01", "2024-01-00", "2024-01-32", "2024-04-31", "10000-01-01", "2024-1-1", "2024-01-1", "02024-01-01", "2024-01", "2024-01-01-01", "2024-01-01.5", "2024.01.01", "2024_01-01", "2024-01-0a", "2024-01-01a", "2024-01-01 ", " 2024-01-01", "20240101-",
		"!", "\"", "$", "%", "&", "'", "(", ")", "*", "+", ",", "/", ":", "<", "=", ">", "?", "@", "[", "\\", "]", "^", "`", "|", "~", "\x7f", "\x80", "\xff", "\xc3", "é", "aé", "éa", "ä", "ß", "\u017f", "\u212a", "٣", "１", "ａ", "＿", "；", "｛", "\u00a0", "\u2028", "\ufeff", "\ufeffplan", "a\xff", "\xffa", "pl\x00an",
	},
}

// P5.1: the numbers that kinds have.
func TestNumbersOfKinds(t *testing.T) {
	if lex.End != 0 || lex.Name != 1 || lex.Word != 2 || lex.Number != 3 || lex.Day != 4 || lex.Sign != 5 {
		t.Errorf("%d, %d, %d, %d, %d, %d", lex.End, lex.Name, lex.Word, lex.Number, lex.Day, lex.Sign)
	}
}

// P5.1: Of, of texts of each kind.
func TestOf(t *testing.T) {
	for want, texts := range kinds {
		for _, s := range texts {
			if got := lex.Of(s); got != want {
				t.Errorf("%.40q: %d, not %d", s, got, want)
			}
			if got := kindOf(s); got != want {
				t.Errorf("%.40q: %d by the second telling, not %d", s, got, want)
			}
		}
	}
}

// The forms of tokens, and what stands between them, told a second time.
var (
	signs   = regexp.MustCompile(`\A[{};]\z`)
	names   = regexp.MustCompile(`\A[A-Za-z_][A-Za-z_0-9]*\z`)
	numbers = regexp.MustCompile(`\A(0|[1-9][0-9]*)(\.[0-9]+)?\z`)
	days    = regexp.MustCompile(`\A[0-9]{4}-[0-9]{2}-[0-9]{2}\z`)
	between = regexp.MustCompile(`\A([ \t\r\n]|#[^\n]*)*`)
	row     = regexp.MustCompile(`\A([{};]|[-.A-Za-z_0-9]+)`)
)

// kindOf: a text's kind, by the second telling.
func kindOf(s string) lex.Kind {
	switch {
	case signs.MatchString(s):
		return lex.Sign
	case slices.Contains(strings.Fields(words), s):
		return lex.Word
	case names.MatchString(s):
		return lex.Name
	case numbers.MatchString(s):
		return lex.Number
	case days.MatchString(s) && !strings.HasPrefix(s, "0000"):
		// The library's calendar has a year 0 ahead of the year 1.
		if _, err := time.Parse("2006-01-02", s); err == nil {
			return lex.Day
		}
	}
	return lex.End
}

// place: the line and the byte of it, of a byte of a text.
func place(s string, i int) (line, col int) {
	return 1 + strings.Count(s[:i], "\n"), i - strings.LastIndex(s[:i], "\n")
}

// lexed: what Lex has to answer, by the second telling.
func lexed(s string) ([]lex.Token, api.Fault) {
	if len(s) > 8192 {
		return nil, api.Fault{Err: 6, Line: 1, Col: 1}
	}
	var list []lex.Token
	for i := 0; ; {
		i += len(between.FindString(s[i:]))
		line, col := place(s, i)
		if i == len(s) {
			return append(list, lex.Token{Line: line, Col: col}), api.Fault{}
		}
		text := row.FindString(s[i:])
		kind := kindOf(text)
		if kind == lex.End {
			return nil, api.Fault{Err: 3, Line: line, Col: col}
		}
		list = append(list, lex.Token{Kind: kind, Text: text, Line: line, Col: col})
		i += len(text)
	}
}

// hold: Lex of a text, held against what it has to answer, and whether its tokens, put together again, are the same ones.
func hold(t *testing.T, s string) {
	t.Helper()
	want, fault := lexed(s)
	got, e := lex.Lex(s)
	if e != fault || !slices.Equal(got, want) {
		t.Fatalf("%.80q: %v, %v, not %v, %v", s, got, e, want, fault)
	}
	together(t, got)
}

// together: tokens, put one behind the other with line feeds between, are the same tokens again, each on a line of its own.
func together(t *testing.T, tokens []lex.Token) {
	t.Helper()
	if len(tokens) == 0 {
		return
	}
	var texts []string
	var want []lex.Token
	for i, k := range tokens {
		texts = append(texts, k.Text)
		want = append(want, lex.Token{Kind: k.Kind, Text: k.Text, Line: i + 1, Col: 1})
	}
	s := strings.Join(texts, "\n")
	if len(s) > api.MaxText {
		return
	}
	got, e := lex.Lex(s)
	if e != (api.Fault{}) || !slices.Equal(got, want) {
		t.Fatalf("%.80q: %v, %v, not %v", s, got, e, want)
	}
}

// P5.1, P5.2: Of and Lex, of all texts of few letters, of such that tokens have, and others.
func TestAllShortTexts(t *testing.T) {
	list := []string{""}
	from := 0
	for range 5 {
		to := len(list)
		for _, s := range list[from:to] {
			for _, c := range []byte("aT_01.-{ \n#\xe9") {
				list = append(list, s+string([]byte{c}))
			}
		}
		from = to
	}
	for _, s := range list {
		if got := lex.Of(s); got != kindOf(s) {
			t.Fatalf("kind of %q: %d, not %d", s, got, kindOf(s))
		}
		hold(t, s)
	}
}

// P5.1: Of and Lex of texts of one byte, and of two: of all 256.
func TestAllBytes(t *testing.T) {
	for a := range 256 {
		for b := range 256 {
			for _, s := range []string{string([]byte{byte(a)}), string([]byte{byte(a), byte(b)})} {
				if got := lex.Of(s); got != kindOf(s) {
					t.Fatalf("kind of %q: %d, not %d", s, got, kindOf(s))
				}
				hold(t, s)
			}
		}
	}
}

// plan: a text with tokens of all kinds, notes, and all that may stand between tokens.
const plan = "# A plan of 2024.\r\nplan p1;{currency EUR;\thorizon 2024-01-01 2024-12-31;\n\n  meter m_1 unit kWh max 2000; # no limit!\n#\n\tfee 12.50 from 2024-02-29 to 2024-03-01;}charge _x { rate 0.0125 rest; } # é \xff end"

// P5.1, P5.2: Of of each word, and Lex of a plan, with any one byte put for one of its own, put in, or left out.
func TestOneOtherLetter(t *testing.T) {
	for _, s := range strings.Fields(words) {
		for i := range len(s) {
			for c := range 256 {
				other := s[:i] + string([]byte{byte(c)}) + s[i+1:]
				if got := lex.Of(other); got != kindOf(other) {
					t.Fatalf("kind of %q: %d, not %d", other, got, kindOf(other))
				}
			}
		}
	}
	for i := range len(plan) {
		hold(t, plan[:i])
		hold(t, plan[i:])
		hold(t, plan[:i]+plan[i+1:])
		for c := range 256 {
			letter := string([]byte{byte(c)})
			hold(t, plan[:i]+letter+plan[i+1:])
			hold(t, plan[:i]+letter+plan[i:])
		}
	}
}

// P5.1, P5.2: Lex of a token of each text of each kind, alone, among blanks, among signs, and behind notes.
func TestEachToken(t *testing.T) {
	for kind, texts := range kinds {
		if kind == lex.End {
			continue
		}
		for _, s := range texts {
			if len(s) > 1000 {
				continue
			}
			for _, ahead := range []string{"", " ", "\t", "\r", "\n", "\r\n", "{", "};", "# a\n", "a ", "1\n2\n", " #\n\n  "} {
				for _, behind := range []string{"", " ", "\t", "\r", "\n", "\r\n", "{", ";;", "#", "# a", "#\n", " a"} {
					text := ahead + s + behind
					list, e := lex.Lex(text)
					line, col := place(text, len(ahead))
					if e != (api.Fault{}) || !slices.Contains(list, lex.Token{Kind: kind, Text: s, Line: line, Col: col}) {
						t.Fatalf("%q: %v, %v", text, list, e)
					}
					hold(t, text)
				}
			}
		}
	}
}

// P5.1: Lex, of texts whose tokens are told ahead, with their places.
func TestLex(t *testing.T) {
	for s, want := range map[string][]lex.Token{
		"":                        {{lex.End, "", 1, 1}},
		"  ":                      {{lex.End, "", 1, 3}},
		"\n":                      {{lex.End, "", 2, 1}},
		"\n\n ":                   {{lex.End, "", 3, 2}},
		"\r":                      {{lex.End, "", 1, 2}},
		"\r\n\t":                  {{lex.End, "", 2, 2}},
		"#":                       {{lex.End, "", 1, 2}},
		"# x\n":                   {{lex.End, "", 2, 1}},
		"#é\xff\x00":              {{lex.End, "", 1, 6}},
		"# a # b\nc":              {{lex.Name, "c", 2, 1}, {lex.End, "", 2, 2}},
		"#a\rb":                   {{lex.End, "", 1, 5}},
		"plan p1;":                {{lex.Word, "plan", 1, 1}, {lex.Name, "p1", 1, 6}, {lex.Sign, ";", 1, 8}, {lex.End, "", 1, 9}},
		"a\n\tb\n":                {{lex.Name, "a", 1, 1}, {lex.Name, "b", 2, 2}, {lex.End, "", 3, 1}},
		"\t\ta":                   {{lex.Name, "a", 1, 3}, {lex.End, "", 1, 4}},
		"a\rb":                    {{lex.Name, "a", 1, 1}, {lex.Name, "b", 1, 3}, {lex.End, "", 1, 4}},
		"a#b\n#c\nd":              {{lex.Name, "a", 1, 1}, {lex.Name, "d", 3, 1}, {lex.End, "", 3, 2}},
		"{}};":                    {{lex.Sign, "{", 1, 1}, {lex.Sign, "}", 1, 2}, {lex.Sign, "}", 1, 3}, {lex.Sign, ";", 1, 4}, {lex.End, "", 1, 5}},
		"a{1;max}_":               {{lex.Name, "a", 1, 1}, {lex.Sign, "{", 1, 2}, {lex.Number, "1", 1, 3}, {lex.Sign, ";", 1, 4}, {lex.Word, "max", 1, 5}, {lex.Sign, "}", 1, 8}, {lex.Name, "_", 1, 9}, {lex.End, "", 1, 10}},
		"1.50 0":                  {{lex.Number, "1.50", 1, 1}, {lex.Number, "0", 1, 6}, {lex.End, "", 1, 7}},
		"2024-01-01\n0001-01-01;": {{lex.Day, "2024-01-01", 1, 1}, {lex.Day, "0001-01-01", 2, 1}, {lex.Sign, ";", 2, 11}, {lex.End, "", 2, 12}},
	} {
		if got, e := lex.Lex(s); e != (api.Fault{}) || !slices.Equal(got, want) {
			t.Errorf("%q: %v, %v, not %v", s, got, e, want)
		}
	}
}

// P5.1: Lex where something is no token: the place where the first such begins, and no tokens beside it.
func TestNoToken(t *testing.T) {
	for s, want := range map[string][2]int{
		"1x": {1, 1}, "a 1x": {1, 3}, "a\n 1x": {2, 2}, "2024-02-30": {1, 1}, "a 2024-02-30 1x": {1, 3}, "\n\n\n\t!": {4, 2},
		"!": {1, 1}, "!!": {1, 1}, "a!": {1, 2}, "a!!b": {1, 2}, "1x!": {1, 1}, "1x 2y": {1, 1}, "! 2y": {1, 1}, "{!}": {1, 2}, "{a.b}": {1, 2}, "a.b!": {1, 1},
		"é": {1, 1}, "aé": {1, 2}, " é": {1, 2}, "a\xff": {1, 2}, "\x00": {1, 1}, "plan\x00": {1, 5}, "a\vb": {1, 2}, "a\fb": {1, 2}, "a\u00a0b": {1, 2}, "\ufeffplan": {1, 1}, "a\u2028b": {1, 2}, "a\u0085b": {1, 2},
		"# é\né": {2, 1}, "#\r!\n\r!": {2, 2}, "a # b\n#\n-": {3, 1}, "-1": {1, 1}, "1 -": {1, 3}, ".5": {1, 1}, "1.": {1, 1}, "007": {1, 1}, "a-b": {1, 1}, "1-": {1, 1}, "1..2": {1, 1}, "plan-": {1, 1},
		strings.Repeat("a", 8191) + "!": {1, 8192}, strings.Repeat("\n", 8191) + "!": {8192, 1}, strings.Repeat("0", 8192): {1, 1},
	} {
		list, e := lex.Lex(s)
		if len(list) != 0 || e != (api.Fault{Err: 3, Line: want[0], Col: want[1]}) {
			t.Errorf("%.40q: %v, %v, not %v", s, list, e, want)
		}
	}
}

// P5.1: Lex of texts as long as may be, and of longer ones, whatever they are.
func TestLongTexts(t *testing.T) {
	for _, s := range []string{" ", "\n", "\r", "\t", "a", "_", "1", "{", "}", ";", "# ", "#", "a ", "a\n", "1;", "{}", "plan\n", "0.5 ", "2024-01-01 "} {
		most := strings.Repeat(s, 8192)[:8192]
		if s == "2024-01-01 " {
			most = strings.Repeat(s, 8192/len(s)) + strings.Repeat(" ", 8192%len(s))
		}
		if _, e := lex.Lex(most); e != (api.Fault{}) {
			t.Errorf("%q: %v", s, e)
		}
		hold(t, most)
	}
	for _, s := range []string{" ", "\n", "a", "{", "#", "!", "0", "-", "\xff", "1x "} {
		for _, n := range []int{8193, 8194, 10000, 1 << 16, 1<<16 + 5, 1 << 20} {
			list, e := lex.Lex(strings.Repeat(s, n)[:n])
			if len(list) != 0 || e != (api.Fault{Err: 6, Line: 1, Col: 1}) {
				t.Errorf("%q, %d: %v", s, n, e)
			}
		}
	}
	if list, e := lex.Lex(strings.Repeat(" ", 8192) + "a"); len(list) != 0 || e != (api.Fault{Err: 6, Line: 1, Col: 1}) {
		t.Errorf("%v, %v", list, e)
	}
}

// P5.2: tokens of all kinds, put together again, with an end and without.
func TestTogether(t *testing.T) {
	var texts []string
	var want []lex.Token
	for _, kind := range []lex.Kind{lex.Word, lex.Name, lex.Number, lex.Day, lex.Sign} {
		for _, s := range kinds[kind] {
			if len(s) < 1000 {
				texts = append(texts, s)
				want = append(want, lex.Token{Kind: kind, Text: s})
			}
		}
	}
	want = append(want, lex.Token{Kind: lex.End})
	for _, gap := range []string{" ", "\n", "\t\r\n ", " #\n", "\n# 1x !\n\n"} {
		list, e := lex.Lex(strings.Join(texts, gap))
		if e != (api.Fault{}) {
			t.Fatalf("%q: %v", gap, e)
		}
		together(t, list)
		for i := range list {
			list[i].Line, list[i].Col = 0, 0
		}
		if !slices.Equal(list, want) {
			t.Fatalf("%q: %v, not %v", gap, list, want)
		}
	}
}

// Lists of two answers share nothing.
func TestNewMemory(t *testing.T) {
	a, _ := lex.Lex("plan p1;")
	b, _ := lex.Lex("plan p1;")
	clear(a[:cap(a)])
	if want, _ := lexed("plan p1;"); !slices.Equal(b, want) {
		t.Errorf("%v, not %v", b, want)
	}
}
