package curve_test

import (
	"math"
	"math/rand"
	"slices"
	"sync"
	"testing"

	"poundage/api"
	"poundage/curve"
	"poundage/line"
)

// group: a group by its five numbers.
func group(from, value, width, rise, count int) api.Group {
	return api.Group{From: from, Value: value, Width: width, Rise: rise, Count: count}
}

// made: the curve of a list of numbers, which has one.
func made(t *testing.T, list ...int) api.Curve {
	t.Helper()
	c, ok := curve.Of(line.Of(0, list...))
	if !ok {
		t.Fatalf("%v has no curve", list)
	}
	return c
}

// P15.1: the document's example.
func TestExample(t *testing.T) {
	c := hold(t, []int{0, 0, 3, 3, 6, 6})
	if !curve.Same(c, api.Curve{Max: 5, Groups: []api.Group{group(0, 0, 2, 3, 3)}}) {
		t.Errorf("%v", c)
	}
}

// P15.1: Of: the groups, the first one as far as it goes, then the next one.
func TestGroups(t *testing.T) {
	for _, c := range []struct {
		list []int
		want []api.Group
	}{
		{[]int{0}, []api.Group{group(0, 0, 0, 0, 1)}},
		{[]int{-4}, []api.Group{group(0, -4, 0, 0, 1)}},
		{[]int{9, 9, 9, 9}, []api.Group{group(0, 9, 0, 0, 1)}},
		{[]int{9, 8}, []api.Group{group(0, 9, 1, -1, 2)}},
		{[]int{9, 9, 9, 8}, []api.Group{group(0, 9, 3, -1, 2)}},
		{[]int{9, 8, 8, 8}, []api.Group{group(0, 9, 1, -1, 2)}},
		{[]int{0, 1, 1, 2}, []api.Group{group(0, 0, 1, 1, 2), group(3, 2, 0, 0, 1)}},
		{[]int{0, 0, 1, 2}, []api.Group{group(0, 0, 2, 1, 2), group(3, 2, 0, 0, 1)}},
		{[]int{0, 1, 3, 4, 6, 7}, []api.Group{group(0, 0, 1, 1, 2), group(2, 3, 1, 1, 2), group(4, 6, 1, 1, 2)}},
		{[]int{0, 1, 0, 1, 0}, []api.Group{group(0, 0, 1, 1, 2), group(2, 0, 1, 1, 2), group(4, 0, 0, 0, 1)}},
		{[]int{5, 0, 1, 2, 3, 3, 3, 4}, []api.Group{group(0, 5, 1, -5, 2), group(2, 1, 1, 1, 3), group(7, 4, 0, 0, 1)}},
		{[]int{0, 0, 7, 7, 14, 21, 28}, []api.Group{group(0, 0, 2, 7, 3), group(5, 21, 1, 7, 2)}},
		{[]int{0, 0, 7, 7, 14, 14, 20, 20, 26}, []api.Group{group(0, 0, 2, 7, 3), group(6, 20, 2, 6, 2)}},
	} {
		if got := hold(t, c.list); !slices.Equal(got.Groups, c.want) {
			t.Errorf("%v: %v, not %v", c.list, got.Groups, c.want)
		}
	}
}

// P15.1, P15.2: every short list of few numbers against a second telling; each list has a curve of its own.
func TestEvery(t *testing.T) {
	seen := map[string][]int{}
	for size := 1; size <= 7; size++ {
		lists(size, []int{-1, 0, 1, 3}, func(list []int) {
			key := name(hold(t, list))
			if other, ok := seen[key]; ok {
				t.Fatalf("%v has the curve of %v", list, other)
			}
			seen[key] = slices.Clone(list)
		})
	}
	for size := 8; size <= 12; size++ {
		lists(size, []int{0, 1}, func(list []int) { hold(t, list) })
	}
}

// P15.1, P15.2: lists at random, up to the greatest quantity and the greatest numbers, against a second telling.
func TestRandom(t *testing.T) {
	r := rand.New(rand.NewSource(15))
	many, long, steep := 0, 0, 0
	for range 3000 {
		c := hold(t, random(r))
		if len(c.Groups) > 20 {
			many++
		}
		for _, g := range c.Groups {
			if g.Count > 20 {
				long++
			}
			if g.Rise > great || g.Rise < -great {
				steep++
			}
		}
	}
	if many < 100 || long < 100 || steep < 100 {
		t.Errorf("%d of many groups, %d long ones, %d steep ones", many, long, steep)
	}
}

// P15.1: Of: quantities up to MaxQuantity, and none beyond it.
func TestLongest(t *testing.T) {
	for _, to := range []int{0, 1, api.MaxQuantity - 1, api.MaxQuantity} {
		c, ok := curve.Of(line.Flat(0, to, 7))
		if !ok || !curve.Same(c, api.Curve{Max: to, Groups: []api.Group{group(0, 7, 0, 0, 1)}}) {
			t.Errorf("to %d: %v, %v", to, c, ok)
		}
		hold(t, slices.Repeat([]int{7}, to+1))
	}
	for _, to := range []int{api.MaxQuantity + 1, api.MaxQuantity + 2, 1 << 32, 1<<32 + 5, 1 << 40} {
		none(t, line.Flat(0, to, 7))
	}
	rising, falling, turning := []int{}, []int{}, []int{}
	for q := range api.MaxQuantity + 1 {
		rising, falling, turning = append(rising, q*1000), append(falling, great-q<<49), append(turning, q%2*great-great/2)
	}
	if c := hold(t, rising); !slices.Equal(c.Groups, []api.Group{group(0, 0, 1, 1000, 2001)}) {
		t.Errorf("%v", c)
	}
	if c := hold(t, falling); !slices.Equal(c.Groups, []api.Group{group(0, great, 1, -1<<49, 2001)}) {
		t.Errorf("%v", c)
	}
	if c := hold(t, turning); len(c.Groups) != 1001 || c.Groups[1000] != group(2000, -great/2, 0, 0, 1) {
		t.Errorf("%v", c)
	}
	none(t, line.Of(0, append(rising, 2001000)...))
}

// P15.1: Of: a line that doesn't begin at 0, or has nothing, has no curve.
func TestBegins(t *testing.T) {
	none(t, line.Line[int]{})
	none(t, line.Of[int](0))
	none(t, line.Flat(0, -1, 5))
	for _, from := range []int{-1 << 40, -1 << 32, -2000, -2, -1, 1, 2, 1999, 2000, 2001, 1 << 32, 1 << 40} {
		none(t, line.Of(from, 5))
		none(t, line.Of(from, 0, 1, 2, 3, 4))
	}
	none(t, line.Flat(-1, 1999, 0))
	none(t, line.Flat(-1<<40, 1<<40, 0))
}

// P15.1: Of: numbers from -2^61 to 2^61, and none beyond, wherever it stands.
func TestGreatest(t *testing.T) {
	for _, n := range []int{great, -great, great - 1, 1 - great} {
		for _, list := range [][]int{{n}, {n, 0}, {0, n}, {0, 0, n, n, 0}, {n, -n, n}, {-n, -n, n, n}, {1, n, 1}} {
			hold(t, list)
		}
	}
	if c := made(t, -great, great); !slices.Equal(c.Groups, []api.Group{group(0, -great, 1, 1<<62, 2)}) {
		t.Errorf("%v", c)
	}
	if c := made(t, great, great, -great); !slices.Equal(c.Groups, []api.Group{group(0, great, 2, -1<<62, 2)}) {
		t.Errorf("%v", c)
	}
	for _, n := range []int{great + 1, -great - 1, 1 << 62, -1 << 62, math.MaxInt, math.MinInt, math.MinInt + 1} {
		for _, list := range [][]int{{n}, {n, 0}, {0, n}, {0, 0, n, n, 0}, {n, n, n}, {great, n}, {1, 2, 3, n}} {
			none(t, line.Of(0, list...))
		}
	}
}

// P15.1: At: 0 and false at no quantity of the curve.
func TestAtNothing(t *testing.T) {
	for _, list := range [][]int{{5}, {5, 5}, {5, 6, 7}, {1, 1, 2, 4, 4, 9}} {
		c := made(t, list...)
		for _, q := range []int{math.MinInt, math.MinInt + 1, -1 << 32, -2, -1, c.Max + 1, c.Max + 2, 2000, 2001, 1 << 32, math.MaxInt} {
			if n, ok := curve.At(c, q); n != 0 || ok {
				t.Errorf("%v at %d: %d, %v", c, q, n, ok)
			}
		}
	}
	if n, ok := curve.At(api.Curve{}, 0); n != 0 || ok {
		t.Errorf("of nothing %d, %v", n, ok)
	}
}

// P15.1: Same: the same Max and the same groups, whether the curves can be or not.
func TestSame(t *testing.T) {
	c := made(t, 0, 0, 3, 3, 6, 6, 7)
	if !curve.Same(c, made(t, 0, 0, 3, 3, 6, 6, 7)) || !curve.Same(c, api.Curve{Max: 6, Groups: append(make([]api.Group, 0, 9), c.Groups...)}) {
		t.Error("not the same as itself")
	}
	if !curve.Same(api.Curve{}, api.Curve{Groups: []api.Group{}}) || !curve.Same(api.Curve{Max: -3}, api.Curve{Max: -3, Groups: make([]api.Group, 0, 2)}) {
		t.Error("nil and empty")
	}
	others := altered(c)
	for _, other := range others {
		if curve.Same(c, other) || curve.Same(other, c) || !curve.Same(other, other) {
			t.Errorf("%v", other)
		}
	}
	if len(others) < 40 {
		t.Errorf("%d of them", len(others))
	}
}

// altered: curves that are like one, but in one thing.
func altered(c api.Curve) []api.Curve {
	var list []api.Curve
	for _, by := range []int{-1, 1, 1 << 32} {
		list = append(list, api.Curve{Max: c.Max + by, Groups: c.Groups})
		for i := range c.Groups {
			for field := range 5 {
				groups := slices.Clone(c.Groups)
				g := &groups[i]
				*[]*int{&g.From, &g.Value, &g.Width, &g.Rise, &g.Count}[field] += by
				list = append(list, api.Curve{Max: c.Max, Groups: groups})
			}
		}
	}
	for i := range c.Groups {
		list = append(list, api.Curve{Max: c.Max, Groups: slices.Concat(c.Groups[:i], c.Groups[i+1:])})
		list = append(list, api.Curve{Max: c.Max, Groups: slices.Concat(c.Groups[:i+1], c.Groups[i:])})
		list = append(list, api.Curve{Max: c.Max, Groups: slices.Concat(c.Groups[:i], []api.Group{{}}, c.Groups[i:])})
	}
	return append(list, api.Curve{Max: c.Max}, api.Curve{Max: c.Max, Groups: append(slices.Clone(c.Groups), api.Group{})})
}

// P15.1: Good: of every curve of few small numbers those alone that Of answers of some line.
func TestGood(t *testing.T) {
	seen := map[string]bool{}
	for size := 1; size <= 4; size++ {
		lists(size, []int{-4, -3, -2, -1, 0, 1, 2, 3, 4}, func(list []int) { seen[name(made(t, list...))] = true })
	}
	var groups []api.Group
	lists(4, []int{0, 1, 2, 3}, func(n []int) {
		for rise := -1; rise <= 1; rise++ {
			groups = append(groups, group(n[0], n[1]-1, n[2], rise, n[3]))
		}
	})
	good, bad := 0, 0
	check := func(c api.Curve) {
		if ok := curve.Good(c); ok != seen[name(c)] {
			t.Fatalf("%v: %v", c, ok)
		} else if ok {
			good++
		} else {
			bad++
		}
	}
	for top := range 4 {
		check(api.Curve{Max: top})
		for _, g := range groups {
			check(api.Curve{Max: top, Groups: []api.Group{g}})
			if g.From > 0 {
				continue
			}
			for _, h := range groups {
				check(api.Curve{Max: top, Groups: []api.Group{g, h}})
			}
		}
	}
	if good < 100 || bad < 100000 {
		t.Errorf("%d that can be, %d that can't", good, bad)
	}
}

// P15.1: Good: curves that tell a line's numbers otherwise than Of, or none.
func TestNotGood(t *testing.T) {
	for i, c := range []api.Curve{
		{}, {Max: 3}, {Max: -1}, {Max: math.MinInt}, {Max: math.MaxInt}, {Max: -1, Groups: []api.Group{group(0, 0, 0, 0, 1)}}, {Max: 2001, Groups: []api.Group{group(0, 0, 0, 0, 1)}}, {Max: 1 << 40, Groups: []api.Group{group(0, 0, 0, 0, 1)}}, {Max: math.MaxInt, Groups: []api.Group{group(0, 0, 0, 0, 1)}},
		{Max: 3, Groups: []api.Group{group(0, 0, 0, 0, 0)}}, {Max: 3, Groups: []api.Group{group(0, 0, 0, 0, 2)}}, {Max: 3, Groups: []api.Group{group(0, 0, 1, 0, 1)}}, {Max: 3, Groups: []api.Group{group(0, 0, 0, 1, 1)}}, {Max: 3, Groups: []api.Group{group(0, 0, -1, 1, 1)}}, {Max: 3, Groups: []api.Group{group(0, 0, 4, 1, 2)}},
		{Max: 3, Groups: []api.Group{group(1, 0, 0, 0, 1)}}, {Max: 3, Groups: []api.Group{group(-1, 0, 0, 0, 1)}}, {Max: 3, Groups: []api.Group{group(0, 0, 1, 0, 4)}}, {Max: 3, Groups: []api.Group{group(0, 0, 1, 1, 5)}}, {Max: 3, Groups: []api.Group{group(0, great, 1, 1, 4)}}, {Max: 0, Groups: []api.Group{group(0, great+1, 0, 0, 1)}}, {Max: 0, Groups: []api.Group{group(0, -great-1, 0, 0, 1)}},
		{Max: 3, Groups: []api.Group{group(0, 0, 1, 1, 3), group(3, 3, 0, 0, 1)}}, {Max: 3, Groups: []api.Group{group(0, 0, 1, 1, 2), group(2, 2, 1, 1, 2)}}, {Max: 3, Groups: []api.Group{group(0, 0, 0, 0, 1), group(1, 1, 1, 1, 3)}}, {Max: 3, Groups: []api.Group{group(0, 0, 0, 0, 1), group(4, 9, 0, 0, 1)}}, {Max: 3, Groups: []api.Group{group(0, 0, 0, 0, 1), group(2, 0, 0, 0, 1)}},
		{Max: 5, Groups: []api.Group{group(3, 6, 0, 0, 1), group(0, 0, 2, 3, 2)}},
	} {
		if curve.Good(c) {
			t.Errorf("%d: %v", i, c)
		}
	}
	for _, c := range []api.Curve{{Max: 3, Groups: []api.Group{group(0, 0, 1, 1, 3)}}, {Max: 3, Groups: []api.Group{group(0, 0, 1, 1, 4)}}, {Max: 3, Groups: []api.Group{group(0, 0, 3, 1, 2)}}, {Max: 2000, Groups: []api.Group{group(0, 0, 0, 0, 1)}}, {Max: 0, Groups: []api.Group{group(0, great, 0, 0, 1)}}} {
		if !curve.Good(c) {
			t.Errorf("%v", c)
		}
	}
}

// P15.1: Good: curves that are but little otherwise than one that can be are held against a second telling.
func TestNearlyGood(t *testing.T) {
	r := rand.New(rand.NewSource(150))
	good, bad := 0, 0
	for range 400 {
		for _, c := range altered(hold(t, random(r)[:1])) {
			if curve.Good(c) != can(c) {
				t.Fatalf("%v: %v", c, curve.Good(c))
			}
		}
		list := random(r)
		for _, c := range altered(hold(t, list[:min(len(list), 12)])) {
			if ok := curve.Good(c); ok != can(c) {
				t.Fatalf("%v: %v", c, ok)
			} else if ok {
				good++
			} else {
				bad++
			}
		}
	}
	if good < 1000 || bad < 1000 {
		t.Errorf("%d that can be, %d that can't", good, bad)
	}
}

// can: whether a curve can be, by a second telling.
func can(c api.Curve) bool {
	if c.Max < 0 || c.Max > api.MaxQuantity || len(c.Groups) == 0 {
		return false
	}
	var list []int
	for q := range c.Max + 1 {
		n := number(c.Groups, q)
		if !n.IsInt64() || n.Int64() < -great || n.Int64() > great {
			return false
		}
		list = append(list, int(n.Int64()))
	}
	return slices.Equal(told(list), c.Groups)
}

// P15.2: two lines have the same curve just if they are the same, however they were made.
func TestOneCurve(t *testing.T) {
	r := rand.New(rand.NewSource(152))
	same, unlike := 0, 0
	for range 3000 {
		list := random(r)
		list = list[:min(len(list), 40)]
		other := slices.Clone(list)
		switch r.Intn(4) {
		case 0:
			other[r.Intn(len(other))] = pick(r, 0, 1, great, list[0])
		case 1:
			other = append(other, pick(r, other[len(other)-1], 1))
		case 2:
			other = other[:1+r.Intn(len(other))]
		}
		a, b := line.Of(0, list...), line.Fill(line.Flat(0, len(other)-1, 99), 0, 0, other[0])
		for q, n := range other {
			b = line.Fill(b, q, q, n)
		}
		c, _ := curve.Of(a)
		d, _ := curve.Of(b)
		if curve.Same(c, d) != line.Equal(a, b) || curve.Same(c, d) != slices.Equal(list, other) {
			t.Fatalf("%v, %v: %v, %v", list, other, c, d)
		}
		if curve.Same(c, d) {
			same++
		} else {
			unlike++
		}
	}
	if same < 500 || unlike < 500 {
		t.Errorf("%d the same, %d not", same, unlike)
	}
}

// P15.1: curves that can't be, of any numbers: each call only ends, and changes nothing.
func TestOdd(t *testing.T) {
	r := rand.New(rand.NewSource(151))
	odd := func() int {
		return pick(r, 0, 1, -1, 2, 2000, 2001, great, -great, 1<<62, math.MinInt, math.MaxInt, math.MinInt+1, r.Intn(9)-4, int(r.Uint64()))
	}
	for range 20000 {
		c := api.Curve{Max: odd()}
		for range r.Intn(4) {
			c.Groups = append(c.Groups, group(odd(), odd(), odd(), odd(), odd()))
		}
		was := slices.Clone(c.Groups)
		good := curve.Good(c)
		curve.Line(c)
		for _, q := range []int{odd(), 0, c.Max} {
			if n, ok := curve.At(c, q); !ok && n != 0 || ok && (q < 0 || q > c.Max) {
				t.Fatalf("%v at %d: %d, %v", c, q, n, ok)
			}
		}
		if l, ok := curve.Line(c); good != ok || !ok && l.Count() > 0 {
			t.Fatalf("%v: Line %v, Good %v", c, ok, good)
		}
		if !curve.Same(c, c) || !slices.Equal(c.Groups, was) {
			t.Fatalf("%v was %v", c, was)
		}
	}
}

// P15.1: what is handed in isn't changed, spare room included, and isn't kept; an answer is new memory.
func TestMemory(t *testing.T) {
	l := line.Of(0, 0, 1, 1, 5, 5, 5)
	c, _ := curve.Of(l)
	d, _ := curve.Of(l)
	for i := range c.Groups {
		c.Groups[i] = api.Group{}
	}
	if want := told([]int{0, 1, 1, 5, 5, 5}); !slices.Equal(d.Groups, want) || !line.Equal(l, line.Of(0, 0, 1, 1, 5, 5, 5)) {
		t.Errorf("%v, not %v", d.Groups, want)
	}
	groups := append(make([]api.Group, 0, 9), d.Groups...)
	spare := groups[:9]
	for i := len(groups); i < 9; i++ {
		spare[i] = group(i, i, i, i, i)
	}
	was := slices.Clone(spare)
	e := api.Curve{Max: 5, Groups: groups}
	back, ok := curve.Line(e)
	if at, _ := curve.At(e, 4); !ok || at != 5 || !curve.Good(e) || !curve.Same(e, d) || !slices.Equal(spare, was) {
		t.Errorf("%v was %v", spare, was)
	}
	clear(groups)
	if !line.Equal(back, l) {
		t.Error("the line hangs on the curve's groups")
	}
}

// P15.1: the same answers, from however many goroutines.
func TestAtOnce(t *testing.T) {
	r := rand.New(rand.NewSource(153))
	list := random(r)[:1]
	for len(list) < 500 {
		list = random(r)
	}
	l := line.Of(0, list...)
	c := made(t, list...)
	var all sync.WaitGroup
	for range 8 {
		all.Go(func() {
			for q, want := range list {
				if n, ok := curve.At(c, q); n != want || !ok {
					t.Errorf("at %d: %d, %v", q, n, ok)
				}
			}
			own, _ := curve.Of(l)
			back, _ := curve.Line(c)
			if !curve.Same(own, c) || !line.Equal(back, l) || !curve.Good(c) {
				t.Error("otherwise at once")
			}
		})
	}
	all.Wait()
}
