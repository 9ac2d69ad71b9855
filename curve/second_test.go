package curve_test

import (
	"math"
	"math/big"
	"math/rand"
	"slices"
	"strconv"
	"strings"
	"testing"

	"poundage/api"
	"poundage/curve"
	"poundage/line"
)

// great is the greatest of a curve's numbers.
const great = 1 << 61

// along: a value and so many rises, over whole numbers without end.
func along(value, rise, times int) *big.Int {
	sum := new(big.Int).Mul(big.NewInt(int64(rise)), big.NewInt(int64(times)))
	return sum.Add(sum, big.NewInt(int64(value)))
}

// is: whether a number without end is this one.
func is(a *big.Int, n int) bool { return a.IsInt64() && int(a.Int64()) == n }

// begins: the quantities at which the numbers of a list change, and 0.
func begins(list []int) []int {
	var made []int
	for q, n := range list {
		if q == 0 || list[q-1] != n {
			made = append(made, q)
		}
	}
	return made
}

// fits: whether these plateaus, all of them, are one group: by what a group says of each, not by what is between two.
func fits(list, at []int, width, rise int) bool {
	for k, q := range at {
		if q != at[0]+k*width || !is(along(list[at[0]], rise, k), list[q]) {
			return false
		}
	}
	return true
}

// told: the groups of a list of numbers by a second telling: of all ends that a group may have the farthest one.
func told(list []int) []api.Group {
	var made []api.Group
	at := begins(list)
	for len(at) > 1 {
		width, rise := at[1]-at[0], list[at[1]]-list[at[0]]
		count := len(at)
		for !fits(list, at[:count], width, rise) {
			count--
		}
		made = append(made, api.Group{From: at[0], Value: list[at[0]], Width: width, Rise: rise, Count: count})
		at = at[count:]
	}
	if len(at) == 1 {
		made = append(made, api.Group{From: at[0], Value: list[at[0]], Count: 1})
	}
	return made
}

// number: a curve's number at a quantity by a second telling.
func number(groups []api.Group, q int) *big.Int {
	var last api.Group
	for _, g := range groups {
		if g.From <= q {
			last = g
		}
	}
	if last.Width < 1 {
		return big.NewInt(int64(last.Value))
	}
	times := 0
	for times < last.Count-1 && last.From+(times+1)*last.Width <= q {
		times++
	}
	return along(last.Value, last.Rise, times)
}

// hold: all calls, held against a list of numbers.
func hold(t *testing.T, list []int) api.Curve {
	t.Helper()
	l := line.Of(0, list...)
	c, ok := curve.Of(l)
	if want := told(list); !ok || c.Max != len(list)-1 || !slices.Equal(c.Groups, want) {
		t.Fatalf("%v: %v, %v, not %v", list, c, ok, want)
	}
	for q, want := range list {
		if n, ok := curve.At(c, q); n != want || !ok || !is(number(c.Groups, q), n) {
			t.Fatalf("%v: at %d %d, %v", c, q, n, ok)
		}
	}
	for _, q := range []int{-1, len(list), math.MinInt, math.MaxInt, -len(list), 1 << 32, -1 << 32} {
		if n, ok := curve.At(c, q); n != 0 || ok {
			t.Fatalf("%v: at %d %d, %v", c, q, n, ok)
		}
	}
	if back, ok := curve.Line(c); !ok || !line.Equal(back, l) {
		t.Fatalf("%v: its line is %v, %v", c, slices.Collect(back.Runs()), ok)
	}
	if !curve.Good(c) || !curve.Same(c, c) || !curve.Same(c, api.Curve{Max: c.Max, Groups: told(list)}) {
		t.Fatalf("%v: Good, Same", c)
	}
	return c
}

// none: no curve, of a line of which there is none.
func none(t *testing.T, l line.Line[int]) {
	t.Helper()
	if c, ok := curve.Of(l); ok || c.Max != 0 || len(c.Groups) != 0 {
		t.Errorf("%v, %v", c, ok)
	}
}

// name: a curve as a text, no two curves the same.
func name(c api.Curve) string {
	words := []string{strconv.Itoa(c.Max)}
	for _, g := range c.Groups {
		for _, n := range []int{g.From, g.Value, g.Width, g.Rise, g.Count} {
			words = append(words, strconv.Itoa(n))
		}
	}
	return strings.Join(words, " ")
}

// lists: every list of so many numbers, each of them one of some.
func lists(size int, of []int, yield func([]int)) {
	list := make([]int, 0, size)
	var fill func()
	fill = func() {
		if len(list) == size {
			yield(list)
			return
		}
		for _, n := range of {
			list = append(list, n)
			fill()
			list = list[:len(list)-1]
		}
	}
	fill()
}

// pick: one of some, at random.
func pick[T any](r *rand.Rand, list ...T) T { return list[r.Intn(len(list))] }

// within: a number that is one of a curve's: the nearest one.
func within(n int) int { return min(max(n, -great), great) }

// random: a list of numbers, at random, in steps for the most part.
func random(r *rand.Rand) []int {
	size := 1 + pick(r, r.Intn(4), r.Intn(20), r.Intn(60), r.Intn(api.MaxQuantity+1))
	list := []int{pick(r, 0, 0, r.Intn(9)-4, great, -great)}
	for len(list) < size {
		width, rise := 1+pick(r, 0, 1, r.Intn(4), r.Intn(20)), pick(r, 1, 2, r.Intn(9)-4, r.Int()%great, -r.Int()%great, -1, -2*list[len(list)-1])
		for range 1 + pick(r, 0, 1, r.Intn(6), r.Intn(40)) {
			last := list[len(list)-1]
			list = append(list, slices.Repeat([]int{last}, width-1)...)
			// A sum of the two is never beyond 64 bits: they are within 2^61 and 2^62.
			list = append(list, within(last+rise))
		}
	}
	return list[:size]
}
