package show_test

import (
	"fmt"
	"regexp"
	"slices"
	"strings"
	"testing"

	"poundage/api"
	"poundage/parse"
	"poundage/show"
	"poundage/tree"
)

// The pieces of a text, its tokens having one blank behind each.
var (
	noteForm    = regexp.MustCompile(`#[^\n]*`)
	signForm    = regexp.MustCompile(`[{};]`)
	leftOutForm = regexp.MustCompile(`\b(allowance 0|block 1) ; `)
	noughtForm  = regexp.MustCompile(`\.0+ |(\.\d*[1-9])0+ `)
	headForm    = regexp.MustCompile(`^plan [^;]*; horizon [^;]*; `)
	itemForm    = regexp.MustCompile(`(meter|fee) [^;]*; |charge [^{]*\{[^{]*\{[^}]*\}[^}]*\} `)
)

// plainOf: the plain text of a text's plan, by a second telling: its own tokens, those that may be left out gone, its items in order, laid out anew.
func plainOf(s string) string {
	s = signForm.ReplaceAllString(noteForm.ReplaceAllString(s, ""), " $0 ")
	s = strings.Join(strings.Fields(s), " ") + " "
	s = leftOutForm.ReplaceAllString(s, "")
	s = noughtForm.ReplaceAllString(s, "$1 ")
	head := headForm.FindString(s)
	items := itemForm.FindAllString(s[len(head):], -1)
	slices.SortStableFunc(items, func(a, b string) int { return order(a) - order(b) })
	return laidOut(strings.Fields(head + strings.Join(items, "")))
}

// order: whether an item is among the first, the second, or the last ones.
func order(item string) int { return strings.Index("mfc", item[:1]) }

// laidOut: tokens in lines, each of which a sign ends, with their tabs.
func laidOut(tokens []string) string {
	text, braces := "", 0
	for i, token := range tokens {
		if token == "}" {
			braces--
		}
		switch {
		case i == 0 || signForm.MatchString(tokens[i-1]):
			text += strings.Repeat("\t", braces)
		case token != ";":
			text += " "
		}
		text += token
		if signForm.MatchString(token) {
			text += "\n"
		}
		if token == "{" {
			braces++
		}
	}
	return text
}

// hold: Plan of a text's plan, held against what it has to answer, whatever the plan's places are; its text is parsed to the same plan, and is its text again, as long as it isn't too long. Answers the plan's text.
func hold(t *testing.T, s string) string {
	t.Helper()
	p, e := parse.Parse(s)
	if e != (api.Fault{}) {
		t.Fatalf("%.2000q: %v", s, e)
	}
	text := show.Plan(p)
	if want := plainOf(s); text != want {
		t.Fatalf("%.2000q:\n%s\nnot\n%s", s, text, want)
	}
	if got := show.Plan(tree.Plain(p)); got != text {
		t.Fatalf("%.2000q: without places\n%s\nnot\n%s", s, got, text)
	}
	again, e := parse.Parse(text)
	if len(text) > api.MaxText {
		if e.Err != api.ErrLimit {
			t.Fatalf("%.2000q: %d bytes, %v", s, len(text), e)
		}
		return text
	}
	if e != (api.Fault{}) || !tree.Same(p, again) || told(p) != told(again) {
		t.Fatalf("%.2000q: %v\n%s\nnot\n%s", s, e, told(again), told(p))
	}
	if got := show.Plan(again); got != text {
		t.Fatalf("%.2000q: again\n%s\nnot\n%s", s, got, text)
	}
	return text
}

// told: all that is in a plan, but for its places.
func told(p api.Plan) string { return fmt.Sprintf("%+v", tree.Plain(p)) }
