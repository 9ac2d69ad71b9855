package decimal_test

import (
	"math"
	"math/big"
	"regexp"
	"slices"
	"strings"
	"testing"

	"poundage/decimal"
)

const great = "9223372036854775807"

// forms: texts of each form, told ahead.
var forms = map[decimal.Form][]string{
	decimal.Whole: {
		"0", "1", "9", "10", "12", "100", "1000000", "1020304050", great, "9223372036854775808", "1" + strings.Repeat("0", 500), strings.Repeat("9", 500),
	},
	decimal.Pointed: {
		"0.0", "0.5", "0.50", "0.05", "0.00", "0.000000000", "0.0000000000", "1.0", "9.9", "10.01", "12.340", "0.0125", "100.001", great + ".0", "0." + strings.Repeat("0", 500), strings.Repeat("9", 500) + "." + strings.Repeat("9", 500),
	},
	decimal.Odd: {
		"", ".", "..", " ", "-", "+", "00", "01", "000", "012", "00.5", "01.5", "00.0", ".5", ".0", "5.", "0.", "12.", "1..2", "1.2.", "1.2.3", ".1.2", "1.2.3.4",
		"-1", "+1", "-0", "-0.5", "0.-5", "0.+5", "1-2", "--1", "1e3", "1E3", "1.5e3", "0x1", "0b1", "0o7", "1_000", "1,000", "1,5", "1'000", "1/2", "1:2", "12a", "a12", "1.a", "a.1", "x", "NaN", "Inf", "nought",
		" 1", "1 ", "1 2", "1. 5", "1 .5", "1.5 ", "1\n", "\n1", "1\t", "1\r", "1\x00", "\x001", "1.5\n", "1.\x00",
		"\xff", "1\xff", "\xff1", "1.\xff", "1\xff5", "1.5\xc2", "٣", "1.٣", "٣.1", "１", "1.５", "１.5", "²", "1²", "1.½", "½", "1．5", "1·5", "1٫5", "\xef\xbb\xbf1",
	},
}

// P4.1: the numbers that forms and verdicts have.
func TestNumbersOfForms(t *testing.T) {
	if decimal.Odd != 0 || decimal.Whole != 1 || decimal.Pointed != 2 {
		t.Errorf("forms: %d, %d, %d", decimal.Odd, decimal.Whole, decimal.Pointed)
	}
	if decimal.Fine != 0 || decimal.Bad != 1 || decimal.Great != 2 {
		t.Errorf("verdicts: %d, %d, %d", decimal.Fine, decimal.Bad, decimal.Great)
	}
}

// P4.1: Of, of texts of each form.
func TestOf(t *testing.T) {
	for want, texts := range forms {
		for _, s := range texts {
			if got := decimal.Of(s); got != want {
				t.Errorf("%q: %d, not %d", s, got, want)
			}
		}
	}
}

// whole, pointed: the two forms, told a second time.
var (
	whole   = regexp.MustCompile(`\A(0|[1-9][0-9]*)\z`)
	pointed = regexp.MustCompile(`\A(0|[1-9][0-9]*)\.[0-9]+\z`)
)

// formOf: the form, by the second telling.
func formOf(s string) decimal.Form {
	switch {
	case whole.MatchString(s):
		return decimal.Whole
	case pointed.MatchString(s):
		return decimal.Pointed
	}
	return decimal.Odd
}

// parsed: what Parse has to answer, by numbers without an end.
func parsed(s string, places, most int) (int, decimal.Verdict) {
	_, behind, _ := strings.Cut(s, ".")
	if places < 0 || places > 9 || formOf(s) == decimal.Odd || len(behind) > places {
		return 0, decimal.Bad
	}
	n, _ := new(big.Rat).SetString(s)
	n.Mul(n, new(big.Rat).SetInt(new(big.Int).Exp(big.NewInt(10), big.NewInt(int64(places)), nil)))
	if !n.IsInt() {
		panic("more digits than places")
	}
	if n.Num().Cmp(big.NewInt(int64(most))) > 0 {
		return 0, decimal.Great
	}
	return int(n.Num().Int64()), decimal.Fine
}

// texts: all of up to so many letters, of those that a number's text may have, and some that it may not.
func texts(letters int) []string {
	list := []string{""}
	from := 0
	for range letters {
		to := len(list)
		for _, s := range list[from:to] {
			for _, r := range "0159.-/:" {
				list = append(list, s+string(r))
			}
		}
		from = to
	}
	return list
}

// hold: Of and Parse of a text, held against what they have to answer.
func hold(t *testing.T, s string, places, most int) {
	t.Helper()
	if got := decimal.Of(s); got != formOf(s) {
		t.Fatalf("form of %q: %d", s, got)
	}
	want, verdict := parsed(s, places, most)
	if n, v := decimal.Parse(s, places, most); n != want || v != verdict {
		t.Fatalf("%q, %d, %d: %d, %d, not %d, %d", s, places, most, n, v, want, verdict)
	}
}

// P4.1: Of and Parse, of all texts of few letters.
func TestAllShortTexts(t *testing.T) {
	for _, s := range texts(5) {
		for _, places := range []int{0, 1, 2, 3} {
			hold(t, s, places, 5000)
		}
	}
}

// P4.1: Of and Parse, of a number's text with any one letter for any of its own, or put in ahead of it.
func TestOneOtherLetter(t *testing.T) {
	const text = "120.0450"
	for i := range len(text) {
		for letter := range 256 {
			other := string([]byte{byte(letter)})
			hold(t, text[:i]+other+text[i+1:], 6, math.MaxInt)
			hold(t, text[:i]+other+text[i:], 6, math.MaxInt)
		}
	}
}

// P4.1: Parse where there is a number: the document's own, and the edges of places, of most, and of 64 bits.
func TestParse(t *testing.T) {
	for i, c := range []struct {
		text         string
		places, most int
		want         int
	}{
		{"0.0125", 6, math.MaxInt, 12500}, {"0.012500", 6, math.MaxInt, 12500}, {"0.30", 6, math.MaxInt, 300000}, {"0.3", 6, math.MaxInt, 300000},
		{"0", 0, 0, 0}, {"0", 9, 0, 0}, {"0.000000000", 9, 0, 0}, {"0.0", 1, 0, 0}, {"0.00", 3, 0, 0}, {"1", 0, 1, 1}, {"10", 0, 10, 10}, {"100", 0, math.MaxInt, 100},
		{"1", 9, 1000000000, 1000000000}, {"0.000000001", 9, 1, 1}, {"0.123456789", 9, 123456789, 123456789}, {"1.2", 1, 12, 12}, {"1.2", 2, 120, 120}, {"1.02", 2, 102, 102},
		{great, 0, math.MaxInt, math.MaxInt}, {"922337203685477580.7", 1, math.MaxInt, math.MaxInt}, {"9223372036.854775807", 9, math.MaxInt, math.MaxInt},
		{"9223372036.8547758", 9, math.MaxInt, math.MaxInt - 7}, {"922337203685477580", 1, math.MaxInt, math.MaxInt - 7}, {"9223372036", 9, math.MaxInt, 9223372036000000000},
	} {
		if n, v := decimal.Parse(c.text, c.places, c.most); n != c.want || v != decimal.Fine {
			t.Errorf("%d: %d, %d", i, n, v)
		}
	}
}

// P4.1: Parse where there is none, by its places, by its form, by more digits than places; also where the number would be too great, too.
func TestParseBad(t *testing.T) {
	for _, places := range []int{math.MinInt, -9, -2, -1, 10, 11, 18, 19, 256, 256 + 6, 1 << 32, math.MaxInt} {
		for _, s := range []string{"0", "1", "0.5", great, great + "0", "", "x", "0.0000000000"} {
			if n, v := decimal.Parse(s, places, math.MaxInt); n != 0 || v != decimal.Bad {
				t.Errorf("%q, %d: %d, %d", s, places, n, v)
			}
		}
	}
	for _, most := range []int{math.MinInt, -1, 0, 100, math.MaxInt} {
		for places := range 10 {
			for _, s := range slices.Concat(forms[decimal.Odd], []string{"0" + great + "0", great + "0.", great + "0x", "0." + strings.Repeat("0", places+1), great + "0." + strings.Repeat("5", places+1), "0." + strings.Repeat("0", 500)}) {
				if n, v := decimal.Parse(s, places, most); n != 0 || v != decimal.Bad {
					t.Errorf("%q, %d, %d: %d, %d", s, places, most, n, v)
				}
			}
		}
	}
}

// P4.1: Parse where the number is above most, or beyond 64 bits, whichever of its digits, or noughts, leads there.
func TestParseGreat(t *testing.T) {
	for i, c := range []struct {
		text         string
		places, most int
	}{
		{"0", 0, -1}, {"0.0", 1, -1}, {"0", 9, math.MinInt}, {"1", 0, 0}, {"101", 0, 100}, {"10.1", 1, 100}, {"1", 2, 99}, {"0.01", 2, 0}, {"0.000000002", 9, 1}, {"1000000.000001", 6, 1000000000000},
		{"9223372036854775808", 0, math.MaxInt}, {"9223372036854775810", 0, math.MaxInt}, {"9999999999999999999", 0, math.MaxInt}, {"10000000000000000000", 0, math.MaxInt}, {"18446744073709551616", 0, math.MaxInt}, {"18446744073709551621", 0, math.MaxInt}, {"27670116110564327424", 0, math.MaxInt}, {"184467440737095516160", 0, math.MaxInt},
		{great, 1, math.MaxInt}, {"922337203685477580.8", 1, math.MaxInt}, {"922337203685477581", 1, math.MaxInt}, {"9223372036.854775808", 9, math.MaxInt}, {"9223372037", 9, math.MaxInt}, {"18446744073.709551616", 9, math.MaxInt}, {"18446744073709551616", 9, math.MaxInt}, {"36893488147419103232", 0, math.MaxInt},
		{strings.Repeat("9", 500), 0, math.MaxInt}, {"1" + strings.Repeat("0", 500), 9, math.MaxInt}, {"1" + strings.Repeat("0", 500) + ".5", 9, math.MaxInt}, {great, 0, math.MaxInt - 1},
	} {
		if n, v := decimal.Parse(c.text, c.places, c.most); n != 0 || v != decimal.Great {
			t.Errorf("%d: %d, %d", i, n, v)
		}
	}
}

// P4.1: Text, of known numbers, and none where there is none.
func TestText(t *testing.T) {
	for i, c := range []struct {
		n, places int
		want      string
	}{
		{12500, 6, "0.0125"}, {300000, 6, "0.3"}, {12000000, 6, "12"}, {12000001, 6, "12.000001"}, {100000, 3, "100"}, {100001, 3, "100.001"}, {100010, 3, "100.01"}, {101000, 3, "101"},
		{0, 0, "0"}, {0, 1, "0"}, {0, 9, "0"}, {1, 0, "1"}, {10, 0, "10"}, {100, 0, "100"}, {10, 1, "1"}, {100, 1, "10"}, {1, 1, "0.1"}, {1, 9, "0.000000001"}, {10, 9, "0.00000001"}, {100000000, 9, "0.1"}, {1000000000, 9, "1"}, {1000000001, 9, "1.000000001"},
		{math.MaxInt, 0, great}, {math.MaxInt, 1, "922337203685477580.7"}, {math.MaxInt, 9, "9223372036.854775807"}, {math.MaxInt - 7, 1, "922337203685477580"}, {9223372036000000000, 9, "9223372036"},
		{-1, 0, ""}, {-1, 3, ""}, {-10, 1, ""}, {-1000000, 6, ""}, {math.MinInt, 0, ""}, {math.MinInt, 9, ""},
		{0, -1, ""}, {1, -1, ""}, {0, 10, ""}, {1, 10, ""}, {1, 19, ""}, {1, 20, ""}, {1, 64, ""}, {1, 256, ""}, {1, math.MinInt, ""}, {1, math.MaxInt, ""}, {-1, -1, ""}, {-1, 10, ""},
	} {
		if got := decimal.Text(c.n, c.places); got != c.want {
			t.Errorf("%d: %q, not %q", i, got, c.want)
		}
	}
}

// P4.1: of all texts of few letters that tell a number, with as many places, Text answers the shortest one.
func TestShortest(t *testing.T) {
	list := texts(5)
	for places := range 4 {
		shortest := map[int]string{}
		for _, s := range list {
			n, v := decimal.Parse(s, places, math.MaxInt)
			// The list's texts are the longer the later they stand in it.
			if _, found := shortest[n]; !found && v == decimal.Fine {
				shortest[n] = s
			}
		}
		for n, s := range shortest {
			if got := decimal.Text(n, places); got != s {
				t.Errorf("%d, %d: %q, not %q", n, places, got, s)
			}
		}
		if len(shortest) < 50 {
			t.Errorf("%d: %d numbers", places, len(shortest))
		}
	}
}

// numbers: small ones, those about tens and about the ends of 64 bits, and a fixed row of others, of all lengths.
func numbers() []int {
	var list []int
	for n := range 1200 {
		list = append(list, n, math.MaxInt-n)
	}
	for ten := 1; ten <= math.MaxInt/10; ten *= 10 {
		list = append(list, ten-1, ten, ten+1, 10*ten-1, 9*ten, 5*ten+5)
	}
	seed := uint64(4)
	for i := range 2000 {
		seed = seed*6364136223846793005 + 1442695040888963407
		list = append(list, int(seed>>(1+i%63)))
	}
	return list
}

// P4.2: a number's text is parsed to it, at most being itself; noughts more behind the point change nothing up to the places, and are bad beyond them; one less at most is too little.
func TestTextAndBack(t *testing.T) {
	for _, n := range numbers() {
		for places := range 10 {
			s := decimal.Text(n, places)
			behind := 0
			switch decimal.Of(s) {
			case decimal.Odd:
				t.Fatalf("text of %d, %d: %q", n, places, s)
			case decimal.Pointed:
				behind = len(s) - strings.Index(s, ".") - 1
			}
			if got, v := decimal.Parse(s, places, n); got != n || v != decimal.Fine {
				t.Fatalf("%q, of %d, %d: %d, %d", s, n, places, got, v)
			}
			if got, v := decimal.Parse(s, places, n-1); got != 0 || v != decimal.Great {
				t.Fatalf("%q, above %d, %d: %d, %d", s, n-1, places, got, v)
			}
			if behind == 0 {
				s += "."
			}
			for behind < places {
				s += "0"
				behind++
				if got, v := decimal.Parse(s, places, n); got != n || v != decimal.Fine {
					t.Fatalf("%q, of %d, %d: %d, %d", s, n, places, got, v)
				}
			}
			if got, v := decimal.Parse(s+"0", places, n); got != 0 || v != decimal.Bad {
				t.Fatalf("%q, of %d, %d: %d, %d", s+"0", n, places, got, v)
			}
		}
	}
}

// P4.1, P4.2: Parse of the texts of numbers about the ends of 64 bits, with all places, held against numbers without an end.
func TestAboutTheEnds(t *testing.T) {
	for _, end := range []string{"9223372036854775807", "18446744073709551615", "36893488147419103231", "92233720368547758070"} {
		middle, _ := new(big.Int).SetString(end, 10)
		for off := int64(-12); off <= 12; off++ {
			digits := new(big.Int).Add(middle, big.NewInt(off)).String()
			for behind := range 10 {
				s := digits
				if behind > 0 {
					s = digits[:len(digits)-behind] + "." + digits[len(digits)-behind:]
				}
				for places := range 10 {
					hold(t, s, places, math.MaxInt)
					hold(t, s, places, math.MaxInt-5)
				}
			}
		}
	}
}
