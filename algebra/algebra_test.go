package algebra_test

import (
	"math"
	"math/rand"
	"slices"
	"sync"
	"testing"

	"poundage/algebra"
	"poundage/api"
	"poundage/curve"
)

// ends are numbers about which something ends: a curve's numbers, and 64 bits.
var ends = []int{math.MinInt, math.MinInt + 1, math.MinInt + great, -3 * great, -2*great - 1, -2 * great, 1 - 2*great, -great - 1, -great, 1 - great, -great / 2, -3, -1, 0, 1, 2, great / 2, great - 1, great, great + 1, 2*great - 1, 2 * great, 2*great + 1, 3 * great, math.MaxInt - great, math.MaxInt - 1, math.MaxInt}

// lasts are numbers of a curve, about the last ones that may be.
var lasts = []int{-great, 1 - great, -great / 2, -great/2 - 1, -1, 0, 1, great / 2, great/2 + 1, great - 1, great}

// modes are those that there are, and others.
var modes = []int{api.Floor, api.Ceil, api.HalfUp, api.HalfEven, -1, 4, 1 << 32, math.MinInt, math.MaxInt}

// wrong: curves that can't be; the first ones tell numbers all the same, but otherwise than Of does.
func wrong() []api.Curve {
	return []api.Curve{
		{Max: 2, Groups: []api.Group{{Value: 5, Count: 1}, {From: 1, Value: 6, Width: 1, Rise: 1, Count: 2}}}, {Max: 2, Groups: []api.Group{{Value: 5, Width: 1, Rise: 1, Count: 4}}}, {Max: 2, Groups: []api.Group{{Value: 5, Width: 1, Rise: 0, Count: 3}}}, {Max: 2, Groups: []api.Group{{Value: 5}}}, {Max: 2, Groups: []api.Group{{Value: 5, Count: 1}, {From: 1, Value: 5, Count: 1}}}, {Max: 2, Groups: []api.Group{{Value: 5, Count: 1}, {From: 3, Value: 6, Count: 1}}},
		{}, {Max: 2}, {Max: 2, Groups: []api.Group{}}, {Max: -1}, {Max: -1, Groups: []api.Group{{Count: 1}}}, {Max: 2001, Groups: []api.Group{{Count: 1}}}, {Max: math.MaxInt, Groups: []api.Group{{Count: 1}}}, {Max: math.MinInt, Groups: []api.Group{{Count: 1}}}, {Max: 2, Groups: []api.Group{{From: 1, Count: 1}}}, {Max: 2, Groups: []api.Group{{From: -1, Count: 1}}},
		{Max: 2, Groups: []api.Group{{Value: great + 1, Count: 1}}}, {Max: 2, Groups: []api.Group{{Value: -great - 1, Count: 1}}}, {Max: 2, Groups: []api.Group{{Value: great, Width: 1, Rise: 1, Count: 3}}},
	}
}

// none: no curve.
func none(c api.Curve, ok bool) bool { return !ok && c.Max == 0 && len(c.Groups) == 0 }

// P16.1: the document's example.
func TestExample(t *testing.T) {
	c, ok := algebra.Sum(made(t, 0, 1, 2), made(t, 5, 5, 5))
	if want := (api.Curve{Max: 2, Groups: []api.Group{{Value: 5, Width: 1, Rise: 1, Count: 3}}}); !ok || !curve.Same(c, want) {
		t.Errorf("%v, %v", c, ok)
	}
}

// P16.1: the calls of two curves, of every two short lists of few numbers, as long as each other or not.
func TestEvery(t *testing.T) {
	all := lists(4, -2, 0, 1)
	for _, a := range all {
		for _, b := range all {
			holdTwo(t, a, b)
		}
	}
}

// P16.1: the calls of two curves, about the last numbers that a curve may have, wherever they stand.
func TestTwoEnds(t *testing.T) {
	for _, m := range lasts {
		for _, n := range lasts {
			holdTwo(t, []int{m}, []int{n})
			holdTwo(t, []int{0, m}, []int{0, n})
			holdTwo(t, []int{m, 0, 0}, []int{n, 0, 5})
			holdTwo(t, []int{7, 7, m, 7}, []int{1, 2, n, 4})
		}
	}
	for _, c := range []struct {
		call func(a, b api.Curve) (api.Curve, bool)
		a, b int
		ok   bool
	}{
		{algebra.Sum, great - 1, 1, true}, {algebra.Sum, great, 1, false}, {algebra.Sum, great, great, false}, {algebra.Sum, great, -great, true}, {algebra.Sum, -great, -1, false}, {algebra.Sum, 1 - great, -1, true},
		{algebra.Diff, great, -1, false}, {algebra.Diff, great, 0, true}, {algebra.Diff, -great, 1, false}, {algebra.Diff, -1, great, false}, {algebra.Diff, 0, great, true}, {algebra.Diff, 0, -great, true}, {algebra.Diff, great, -great, false},
		{algebra.Lesser, great, -great, true}, {algebra.Greater, great, -great, true},
	} {
		if got, ok := c.call(made(t, c.a), made(t, c.b)); ok != c.ok || !ok && !none(got, ok) {
			t.Errorf("%d, %d: %v, %v", c.a, c.b, got, ok)
		}
	}
}

// P16.1: Diff is the first one less the second one.
func TestDiff(t *testing.T) {
	if c, ok := algebra.Diff(made(t, 0, 0, 3), made(t, 5, 4, 3)); !ok || !curve.Same(c, made(t, -5, -4, 0)) {
		t.Errorf("%v, %v", c, ok)
	}
}

// P16.1: Shift, by what a curve's number may be, and by more than that.
func TestShift(t *testing.T) {
	for _, by := range ends {
		for _, n := range lasts {
			holdShift(t, []int{n}, by)
			holdShift(t, []int{0, n}, by)
			holdShift(t, []int{n, n, n / 2}, by)
			holdShift(t, []int{0, 0, n, 1}, by)
		}
	}
	for _, list := range lists(4, -2, 0, 3) {
		for by := -3; by <= 3; by++ {
			holdShift(t, list, by)
		}
	}
	if c, ok := algebra.Shift(made(t, -great, -great, 1-great), 2*great); !none(c, ok) {
		t.Errorf("%v, %v", c, ok)
	}
	if c, ok := algebra.Shift(made(t, -great, -great, -great), 2*great); !ok || !curve.Same(c, made(t, great, great, great)) {
		t.Errorf("%v, %v", c, ok)
	}
}

// P16.1: Scale, of short lists, small factors and divisors, by all modes, those that there aren't, too.
func TestScale(t *testing.T) {
	for _, list := range lists(3, -7, -1, 0, 1, 5) {
		for by := -3; by <= 3; by++ {
			for of := -2; of <= 6; of++ {
				for _, mode := range modes {
					holdScale(t, list, by, of, mode)
				}
			}
		}
	}
}

// P16.1: Scale about the ends of a curve's numbers and of 64 bits: products may be beyond them, answers not.
func TestScaleEnds(t *testing.T) {
	for _, by := range ends {
		for _, of := range ends {
			for _, mode := range modes[:5] {
				holdScale(t, []int{great, 1}, by, of, mode)
				holdScale(t, []int{0, 1 - great}, by, of, mode)
				holdScale(t, []int{0, 0, 0}, by, of, mode)
				holdScale(t, []int{1, 2, 3}, by, of, mode)
			}
		}
	}
	// A number without an answer of MulDiv is none, not 0.
	for _, list := range [][]int{{great, 0}, {0, great}, {0, 0, -great, 0}, {0, 4}} {
		if c, ok := algebra.Scale(made(t, list...), math.MaxInt, 1, api.Floor); !none(c, ok) {
			t.Errorf("%v: %v, %v", list, c, ok)
		}
	}
	if c, ok := algebra.Scale(made(t, great, -great, 3), math.MaxInt, math.MaxInt, api.Ceil); !ok || !curve.Same(c, made(t, great, -great, 3)) {
		t.Errorf("%v, %v", c, ok)
	}
}

// P16.1: Scale rounds by its mode, below 0, too.
func TestScaleModes(t *testing.T) {
	c := made(t, -7, -5, 5, 7)
	for mode, want := range [][]int{{-4, -3, 2, 3}, {-3, -2, 3, 4}, {-3, -2, 3, 4}, {-4, -2, 2, 4}} {
		if got, ok := algebra.Scale(c, 1, 2, mode); !ok || !curve.Same(got, made(t, want...)) {
			t.Errorf("by %d: %v, %v", mode, got, ok)
		}
	}
}

// P16.1: Flat: quantities up to MaxQuantity, numbers up to a curve's last ones, and none beyond.
func TestFlat(t *testing.T) {
	for _, most := range append([]int{2, 3, 1000, 1999, 2000, 2001, 2002, 1 << 32, 1<<32 + 5, 1 << 40, 1<<40 + 1, -2, -1 << 32, -1 << 40, -1<<40 - 1}, ends...) {
		for _, n := range append([]int{9, -9}, ends...) {
			c, ok := algebra.Flat(most, n)
			if most < 0 || most > api.MaxQuantity || n < -great || n > great {
				if !none(c, ok) {
					t.Errorf("%d, %d: %v, %v", most, n, c, ok)
				}
				continue
			}
			if want := (api.Curve{Max: most, Groups: []api.Group{{Value: n, Count: 1}}}); !ok || !curve.Same(c, want) {
				t.Errorf("%d, %d: %v, %v", most, n, c, ok)
			}
		}
	}
}

// P16.1: all calls of long lists at random.
func TestRandom(t *testing.T) {
	r := rand.New(rand.NewSource(16))
	for range 400 {
		size := 1 + pick(r, r.Intn(20), r.Intn(200), r.Intn(api.MaxQuantity+1), api.MaxQuantity)
		a, b := random(r, size, pick(r, 5, great/2, great)), random(r, size, pick(r, 5, great/2, great))
		holdTwo(t, a, b)
		holdShift(t, a, pick(r, 3, -5, number(r), int(r.Uint64())))
		holdScale(t, a, pick(r, -1, 2, r.Intn(99)-49, number(r)), pick(r, 1, 3, 100000, great, r.Int()), r.Intn(4))
	}
}

// P16.1: one number that is too great, wherever it stands, and there is no answer.
func TestOneTooGreat(t *testing.T) {
	for _, size := range []int{1, 2, 7, api.MaxQuantity + 1} {
		for _, q := range []int{0, size / 2, size - 1} {
			for _, sign := range []int{1, -1} {
				list := slices.Repeat([]int{0}, size)
				list[q] = sign * great
				c, toward := made(t, list...), made(t, slices.Repeat([]int{sign}, size)...)
				away := made(t, slices.Repeat([]int{-sign}, size)...)
				for i, call := range []func() (api.Curve, bool){
					func() (api.Curve, bool) { return algebra.Sum(c, toward) }, func() (api.Curve, bool) { return algebra.Sum(toward, c) }, func() (api.Curve, bool) { return algebra.Diff(c, away) }, func() (api.Curve, bool) { return algebra.Diff(away, c) }, func() (api.Curve, bool) { return algebra.Sum(c, c) },
					func() (api.Curve, bool) { return algebra.Shift(c, sign) }, func() (api.Curve, bool) { return algebra.Shift(c, sign*math.MaxInt) }, func() (api.Curve, bool) { return algebra.Scale(c, 2, 1, api.Floor) }, func() (api.Curve, bool) { return algebra.Scale(c, -2, 1, api.Floor) }, func() (api.Curve, bool) { return algebra.Scale(c, 8, 1, api.Floor) }, func() (api.Curve, bool) { return algebra.Scale(c, math.MinInt, 3, api.Floor) },
				} {
					if got, ok := call(); !none(got, ok) {
						t.Errorf("%d of %d, %d at %d: %v, %v", i, size, sign, q, got, ok)
					}
				}
			}
		}
	}
}

// P16.1: two of unlike Max have no answer, however alike their numbers are.
func TestUnlike(t *testing.T) {
	lengths := []int{1, 2, 3, 10, 1999, 2000, 2001}
	for _, size := range lengths {
		for _, other := range lengths {
			a, _ := algebra.Flat(size-1, 4)
			b, _ := algebra.Flat(other-1, 4)
			for _, r := range reckonings() {
				got, ok := r.call(a, b)
				if ok != (size == other) || !ok && !none(got, ok) {
					t.Errorf("%s of %d and %d: %v, %v", r.name, size, other, got, ok)
				}
			}
		}
	}
}

// P16.1: of a curve that can't be no call has an answer: on either side, and on both.
func TestCantBe(t *testing.T) {
	for i, c := range wrong() {
		if curve.Good(c) {
			t.Fatalf("%d can be", i)
		}
		right := made(t, 1, 2, 3)
		for _, r := range reckonings() {
			for _, pair := range [][2]api.Curve{{c, right}, {right, c}, {c, c}} {
				if got, ok := r.call(pair[0], pair[1]); !none(got, ok) {
					t.Errorf("%d: %s: %v, %v", i, r.name, got, ok)
				}
			}
		}
		for _, by := range []int{0, 1, -1} {
			if got, ok := algebra.Shift(c, by); !none(got, ok) {
				t.Errorf("%d: Shift: %v, %v", i, got, ok)
			}
			if got, ok := algebra.Scale(c, by, 1, api.Floor); !none(got, ok) {
				t.Errorf("%d: Scale: %v, %v", i, got, ok)
			}
		}
	}
}

// P16.1: curves of any numbers: there is an answer just if they can be, and nothing is changed.
func TestOdd(t *testing.T) {
	r := rand.New(rand.NewSource(161))
	odd := func() int { return pick(r, 0, 0, 1, 1, 2, -1, 3, pick(r, ends...), int(r.Uint64())) }
	good, bad := 0, 0
	for range 20000 {
		c := made(t, random(r, 1+r.Intn(4), great)...)
		if r.Intn(2) == 0 {
			c = api.Curve{Max: odd()}
			for range r.Intn(4) {
				c.Groups = append(c.Groups, api.Group{From: odd(), Value: odd(), Width: odd(), Rise: odd(), Count: odd()})
			}
		} else if r.Intn(2) == 0 {
			g := &c.Groups[r.Intn(len(c.Groups))]
			*pick(r, &c.Max, &g.From, &g.Value, &g.Width, &g.Rise, &g.Count) += pick(r, -1, 1, odd())
		}
		was := slices.Clone(c.Groups)
		able := curve.Good(c)
		if able {
			good++
		} else {
			bad++
		}
		for _, same := range reckonings()[2:] {
			if got, ok := same.call(c, c); ok != able || ok && !curve.Same(got, c) || !ok && !none(got, ok) {
				t.Fatalf("%s of %v: %v, %v", same.name, c, got, ok)
			}
		}
		if got, ok := algebra.Diff(c, c); ok != able || !ok && !none(got, ok) {
			t.Fatalf("Diff of %v: %v, %v", c, got, ok)
		}
		if got, ok := algebra.Shift(c, 0); ok != able || ok && !curve.Same(got, c) || !ok && !none(got, ok) {
			t.Fatalf("Shift of %v: %v, %v", c, got, ok)
		}
		if got, ok := algebra.Scale(c, 0, 1, 0); ok != able || !ok && !none(got, ok) {
			t.Fatalf("Scale of %v: %v, %v", c, got, ok)
		}
		algebra.Shift(c, odd())
		algebra.Scale(c, odd(), odd(), odd())
		algebra.Flat(odd(), odd())
		algebra.Sum(c, made(t, 1, 2))
		if !slices.Equal(c.Groups, was) {
			t.Fatalf("%v was %v", c, was)
		}
	}
	if good < 1000 || bad < 1000 {
		t.Errorf("%d that can be, %d that can't", good, bad)
	}
}

// P16.2: what is added, and taken away again, is as it was; also the other way round.
func TestTakenAway(t *testing.T) {
	r := rand.New(rand.NewSource(162))
	added, taken := 0, 0
	for range 600 {
		size := 1 + pick(r, r.Intn(6), r.Intn(60), r.Intn(api.MaxQuantity+1))
		a, b := made(t, random(r, size, pick(r, 5, great/2, great))...), made(t, random(r, size, pick(r, 5, great/2, great))...)
		by := number(r)
		if sum, ok := algebra.Sum(a, b); ok {
			added++
			if back, ok := algebra.Diff(sum, b); !ok || !curve.Same(back, a) {
				t.Fatalf("%v and %v, less it: %v, %v", a, b, back, ok)
			}
			if back, ok := algebra.Diff(sum, a); !ok || !curve.Same(back, b) {
				t.Fatalf("%v and %v, less the first: %v, %v", a, b, back, ok)
			}
		}
		if rest, ok := algebra.Diff(a, b); ok {
			taken++
			if back, ok := algebra.Sum(rest, b); !ok || !curve.Same(back, a) {
				t.Fatalf("%v less %v, and it: %v, %v", a, b, back, ok)
			}
		}
		if far, ok := algebra.Shift(a, by); ok {
			if back, ok := algebra.Shift(far, -by); !ok || !curve.Same(back, a) {
				t.Fatalf("%v by %d, and back: %v, %v", a, by, back, ok)
			}
			level, _ := algebra.Flat(a.Max, by)
			if sum, ok := algebra.Sum(a, level); !ok || !curve.Same(sum, far) {
				t.Fatalf("%v by %d: %v, not %v", a, by, far, sum)
			}
		}
	}
	if added < 100 || taken < 100 {
		t.Errorf("%d added, %d taken away", added, taken)
	}
}

// P16.2: the lesser and the greater one together are both together, or have no sum either.
func TestTogether(t *testing.T) {
	r := rand.New(rand.NewSource(163))
	some, nothing := 0, 0
	for range 600 {
		size := 1 + pick(r, r.Intn(6), r.Intn(60), r.Intn(api.MaxQuantity+1))
		a, b := made(t, random(r, size, pick(r, 5, great/2, great))...), made(t, random(r, size, pick(r, 5, great/2, great))...)
		less, ok := algebra.Lesser(a, b)
		more, also := algebra.Greater(a, b)
		if !ok || !also {
			t.Fatalf("%v, %v: %v, %v", a, b, ok, also)
		}
		both, ok := algebra.Sum(a, b)
		if again, also := algebra.Sum(less, more); ok != also || !curve.Same(both, again) {
			t.Fatalf("%v and %v: %v, not %v", a, b, again, both)
		}
		if ok {
			some++
		} else {
			nothing++
		}
	}
	if some < 100 || nothing < 100 {
		t.Errorf("%d sums, %d without one", some, nothing)
	}
}

// P16.1: what is handed in isn't changed, spare room included; an answer is new memory, also where it is what was handed in.
func TestMemory(t *testing.T) {
	list := []int{0, 1, 1, 5, 5, 5, 9}
	c := made(t, list...)
	groups := append(make([]api.Group, 0, 20), c.Groups...)
	spare := groups[:20]
	for i := len(groups); i < 20; i++ {
		spare[i] = api.Group{From: i, Value: i, Width: i, Rise: i, Count: i}
	}
	was := slices.Clone(spare)
	a, zero := api.Curve{Max: 6, Groups: groups}, made(t, 0, 0, 0, 0, 0, 0, 0)
	for i, call := range []func() (api.Curve, bool){
		func() (api.Curve, bool) { return algebra.Sum(a, zero) }, func() (api.Curve, bool) { return algebra.Sum(zero, a) }, func() (api.Curve, bool) { return algebra.Diff(a, zero) }, func() (api.Curve, bool) { return algebra.Lesser(a, a) }, func() (api.Curve, bool) { return algebra.Greater(a, zero) }, func() (api.Curve, bool) { return algebra.Greater(zero, a) },
		func() (api.Curve, bool) { return algebra.Shift(a, 0) }, func() (api.Curve, bool) { return algebra.Scale(a, 1, 1, 0) }, func() (api.Curve, bool) { return algebra.Scale(a, 7, 7, api.HalfEven) },
	} {
		first, _ := call()
		second, _ := call()
		clear(first.Groups[:cap(first.Groups)])
		if !curve.Same(second, c) || !slices.Equal(spare, was) {
			t.Errorf("%d: %v, %v was %v", i, second, spare, was)
		}
	}
	first, _ := algebra.Flat(3, 4)
	clear(first.Groups)
	if second, _ := algebra.Flat(3, 4); !curve.Same(second, made(t, 4, 4, 4, 4)) {
		t.Errorf("Flat: %v", second)
	}
}

// P16.1: the same answers, from however many goroutines.
func TestAtOnce(t *testing.T) {
	r := rand.New(rand.NewSource(164))
	a, b := made(t, random(r, 700, great/2)...), made(t, random(r, 700, great/2)...)
	answers := func() []api.Curve {
		var list []api.Curve
		for _, r := range reckonings() {
			c, _ := r.call(a, b)
			list = append(list, c)
		}
		shifted, _ := algebra.Shift(a, 5)
		halved, _ := algebra.Scale(a, 1, 2, api.HalfUp)
		return append(list, shifted, halved)
	}
	want := answers()
	var all sync.WaitGroup
	for range 8 {
		all.Go(func() {
			if got := answers(); !slices.EqualFunc(got, want, curve.Same) {
				t.Error("otherwise at once")
			}
		})
	}
	all.Wait()
	if slices.ContainsFunc(want, func(c api.Curve) bool { return c.Max != 699 }) {
		t.Error("nothing to compare")
	}
}
