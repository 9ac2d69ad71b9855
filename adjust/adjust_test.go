package adjust_test

import (
	"math"
	"math/rand"
	"slices"
	"testing"

	"poundage/adjust"
	"poundage/api"
)

func percent(n, mode int) api.Adjust { return api.Adjust{Kind: api.Percent, N: n, Mode: mode} }

func capped(n int) api.Adjust { return api.Adjust{Kind: api.Cap, N: n} }

func minimum(n int) api.Adjust { return api.Adjust{Kind: api.Minimum, N: n} }

func added(n int) api.Adjust { return api.Adjust{Kind: api.Add, N: n} }

// P12.1: a percentage, by each mode, on both sides of 0.
func TestPercent(t *testing.T) {
	for _, c := range []struct {
		n, by int
		want  [4]int
	}{
		{1000, 107500, [4]int{1075, 1075, 1075, 1075}}, {1000, api.Whole, [4]int{1000, 1000, 1000, 1000}}, {-7, api.Whole, [4]int{-7, -7, -7, -7}},
		{1000, 0, [4]int{}}, {0, 107500, [4]int{}}, {-1000, 0, [4]int{}}, {0, 0, [4]int{}},
		{5, 50000, [4]int{2, 3, 3, 2}}, {7, 50000, [4]int{3, 4, 4, 4}}, {-5, 50000, [4]int{-3, -2, -2, -2}}, {-7, 50000, [4]int{-4, -3, -3, -4}},
		{10, 33333, [4]int{3, 4, 3, 3}}, {10, 66667, [4]int{6, 7, 7, 7}}, {-10, 33333, [4]int{-4, -3, -3, -3}}, {-10, 66667, [4]int{-7, -6, -7, -7}},
		{1, 1, [4]int{0, 1, 0, 0}}, {-1, 1, [4]int{-1, 0, 0, 0}}, {1, 99999, [4]int{0, 1, 1, 1}}, {1, 49999, [4]int{0, 1, 0, 0}}, {1, 50001, [4]int{0, 1, 1, 1}},
		{1, 100001, [4]int{1, 2, 1, 1}}, {3, 150000, [4]int{4, 5, 5, 4}}, {1, api.MaxPercent, [4]int{1000, 1000, 1000, 1000}},
		{5, -50000, [4]int{-3, -2, -2, -2}}, {-5, -50000, [4]int{2, 3, 3, 2}}, {7, -api.Whole, [4]int{-7, -7, -7, -7}},
		{api.MaxAmount, api.MaxPercent, [4]int{1e15, 1e15, 1e15, 1e15}},
	} {
		for i, mode := range modes {
			if n, ok := adjust.One(percent(c.by, mode), c.n); n != c.want[i] || !ok {
				t.Errorf("%d by %d, mode %d: %d, %v, not %d", c.n, c.by, mode, n, ok, c.want[i])
			}
		}
	}
}

// P12.1: a cap, a minimum, and what is added; their mode plays no part.
func TestOthers(t *testing.T) {
	for _, c := range []struct {
		a       api.Adjust
		n, want int
	}{
		{capped(5), 4, 4}, {capped(5), 5, 5}, {capped(5), 6, 5}, {capped(5), 7, 5}, {capped(5), -7, -7}, {capped(0), 1, 0}, {capped(0), -1, -1}, {capped(-5), 3, -5}, {capped(-5), -6, -6},
		{capped(api.MaxAmount), math.MaxInt, api.MaxAmount}, {capped(math.MaxInt), math.MaxInt, math.MaxInt}, {capped(math.MinInt), 0, math.MinInt}, {capped(0), math.MinInt, math.MinInt},
		{minimum(5), 4, 5}, {minimum(5), 5, 5}, {minimum(5), 6, 6}, {minimum(5), -7, 5}, {minimum(0), -1, 0}, {minimum(0), 1, 1}, {minimum(-5), -6, -5}, {minimum(-5), 3, 3},
		{minimum(api.MaxAmount), 0, api.MaxAmount}, {minimum(math.MinInt), math.MinInt, math.MinInt}, {minimum(math.MaxInt), 0, math.MaxInt}, {minimum(0), math.MaxInt, math.MaxInt},
		{added(5), 4, 9}, {added(0), 4, 4}, {added(5), -4, 1}, {added(-5), 4, -1}, {added(5), 0, 5},
		{added(1), math.MaxInt - 1, math.MaxInt}, {added(math.MaxInt), 0, math.MaxInt}, {added(-1), math.MinInt + 1, math.MinInt}, {added(math.MaxInt), math.MinInt, -1}, {added(math.MinInt), math.MaxInt, -1}, {added(math.MaxInt), -math.MaxInt, 0},
	} {
		for _, mode := range slices.Concat(modes, wrongModes) {
			a := c.a
			a.Mode = mode
			if n, ok := adjust.One(a, c.n); n != c.want || !ok {
				t.Errorf("%d by %+v: %d, %v, not %d", c.n, a, n, ok, c.want)
			}
		}
	}
}

// P12.1: percentages and sums about the ends of 64 bits, and behind them.
func TestAtTheEnds(t *testing.T) {
	type answer struct {
		n  int
		ok bool
	}
	sure := func(n int) answer { return answer{n, true} }
	least := sure(math.MinInt)
	for _, c := range []struct {
		n, by int
		want  [4]answer
	}{
		{math.MaxInt, api.Whole, [4]answer{sure(math.MaxInt), sure(math.MaxInt), sure(math.MaxInt), sure(math.MaxInt)}},
		{math.MinInt, api.Whole, [4]answer{least, least, least, least}},
		{api.Whole, math.MaxInt, [4]answer{sure(math.MaxInt), sure(math.MaxInt), sure(math.MaxInt), sure(math.MaxInt)}},
		{api.Whole, math.MinInt, [4]answer{least, least, least, least}},
		{math.MinInt, -api.Whole, [4]answer{}}, {math.MaxInt, 100001, [4]answer{}}, {math.MinInt, 100001, [4]answer{}}, {math.MaxInt, 300000, [4]answer{}},
		{math.MaxInt, math.MaxInt, [4]answer{}}, {math.MinInt, math.MinInt, [4]answer{}}, {math.MinInt, math.MaxInt, [4]answer{}},
		{math.MaxInt, 50000, [4]answer{sure(1<<62 - 1), sure(1 << 62), sure(1 << 62), sure(1 << 62)}},
		{math.MaxInt, 99999, [4]answer{sure(9223279803134407259), sure(9223279803134407260), sure(9223279803134407259), sure(9223279803134407259)}},
		// A product that goes round to 0 is no 0.
		{1 << 32, 1 << 32, [4]answer{sure(184467440737095), sure(184467440737096), sure(184467440737096), sure(184467440737096)}},
		// Half below 2^63, and half below -2^63.
		{6148914691236517205, 150000, [4]answer{sure(math.MaxInt)}},
		{-6148914691236517205, 150000, [4]answer{least, sure(-math.MaxInt), sure(-math.MaxInt), least}},
		// The greatest amounts of which a thousand times isn't beyond 64 bits.
		{9223372036854775, api.MaxPercent, [4]answer{sure(9223372036854775000), sure(9223372036854775000), sure(9223372036854775000), sure(9223372036854775000)}},
		{9223372036854776, api.MaxPercent, [4]answer{}}, {-9223372036854776, api.MaxPercent, [4]answer{}},
	} {
		for i, mode := range modes {
			if n, ok := adjust.One(percent(c.by, mode), c.n); n != c.want[i].n || ok != c.want[i].ok {
				t.Errorf("%d by %d, mode %d: %d, %v, not %v", c.n, c.by, mode, n, ok, c.want[i])
			}
		}
	}
	for _, c := range [][2]int{{1, math.MaxInt}, {math.MaxInt, 1}, {math.MaxInt, math.MaxInt}, {-1, math.MinInt}, {math.MinInt, -1}, {math.MinInt, math.MinInt}, {1 << 62, 1 << 62}} {
		if n, ok := adjust.One(added(c[0]), c[1]); n != 0 || ok {
			t.Errorf("%d and %d more: %d, %v", c[1], c[0], n, ok)
		}
	}
}

// P12.1: of a kind, and of a percentage's mode, that there isn't, there is no answer, also where nothing would change.
func TestWrongAdjusts(t *testing.T) {
	none := func(a api.Adjust, n int) {
		if got, ok := adjust.One(a, n); got != 0 || ok {
			t.Errorf("One of %+v, %d: %d, %v", a, n, got, ok)
		}
		for _, list := range [][]api.Adjust{{a}, {a, minimum(3)}, {added(0), a}, {a, percent(0, api.Floor)}, {capped(5), a, capped(3), added(1)}} {
			if got, ok := adjust.All(n, list...); got != 0 || ok {
				t.Errorf("All of %d, %+v: %d, %v", n, list, got, ok)
			}
		}
	}
	for _, n := range []int{math.MinInt, -7, -1, 0, 1, 7, 1000, math.MaxInt} {
		for _, by := range []int{math.MinInt, -1, 0, 1, n, api.Whole, math.MaxInt} {
			for _, kind := range wrongKinds {
				for _, mode := range append(modes, -1, 4) {
					none(api.Adjust{Kind: kind, N: by, Mode: mode}, n)
				}
			}
			for _, mode := range wrongModes {
				none(percent(by, mode), n)
			}
		}
	}
}

// P12.1: One, of all pairs of numbers, all kinds and modes, and such as there aren't, held against numbers without an end.
func TestOneOfAll(t *testing.T) {
	list := numbers()
	for _, kind := range append([]int{api.Percent, api.Cap, api.Minimum, api.Add}, wrongKinds...) {
		for _, mode := range append(modes, -1, 4) {
			for _, by := range list {
				for _, n := range list {
					holdOne(t, api.Adjust{Kind: kind, N: by, Mode: mode}, n)
				}
			}
		}
	}
	for _, mode := range modes {
		for n := -120; n <= 120; n++ {
			for by := -300000; by <= 300000; by += 12500 {
				holdOne(t, percent(by, mode), n)
			}
		}
	}
}

// P12.1: All, the first one first; of none the amount itself.
func TestAll(t *testing.T) {
	for _, c := range []struct {
		n, want int
		list    []api.Adjust
	}{
		{1000, 1050, []api.Adjust{percent(107500, api.HalfUp), capped(1050)}}, {900, 968, []api.Adjust{percent(107500, api.HalfUp), capped(1050)}}, {900, 967, []api.Adjust{percent(107500, api.Floor), capped(1050)}},
		{1000, 1075, []api.Adjust{capped(1000), percent(107500, api.HalfUp)}}, {2000, 1075, []api.Adjust{capped(1000), percent(107500, api.HalfUp)}}, {2000, 1000, []api.Adjust{percent(107500, api.HalfUp), capped(1000)}},
		{100, 105, []api.Adjust{capped(100), added(5)}}, {100, 100, []api.Adjust{added(5), capped(100)}}, {10, 25, []api.Adjust{added(5), minimum(25)}}, {10, 30, []api.Adjust{minimum(25), added(5)}},
		{7, 5, []api.Adjust{minimum(9), capped(5)}}, {7, 9, []api.Adjust{capped(5), minimum(9)}},
		{3, 4, []api.Adjust{percent(50000, api.Ceil), percent(200000, api.Floor)}}, {3, 3, []api.Adjust{percent(200000, api.Floor), percent(50000, api.Ceil)}}, {10, 11, []api.Adjust{percent(50000, api.Floor), percent(50000, api.Floor), percent(500000, api.Floor), added(1)}},
		{math.MaxInt, math.MaxInt, []api.Adjust{capped(0), added(math.MaxInt)}}, {math.MaxInt, math.MaxInt, []api.Adjust{added(-1), added(1)}}, {math.MinInt, 3, []api.Adjust{minimum(0), added(1), added(1), added(1)}},
		{5, 6, []api.Adjust{added(1)}}, {5, 11, []api.Adjust{added(1), added(1), added(1), added(1), added(1), added(1)}}, {5, 12, slices.Repeat([]api.Adjust{added(1)}, 7)}, {5, 100005, slices.Repeat([]api.Adjust{added(1)}, 100000)},
	} {
		if n, ok := adjust.All(c.n, c.list...); n != c.want || !ok {
			t.Errorf("%d by %d adjustments: %d, %v, not %d", c.n, len(c.list), n, ok, c.want)
		}
	}
	for _, n := range numbers() {
		for _, list := range [][]api.Adjust{nil, {}, []api.Adjust{capped(3)}[:0]} {
			if got, ok := adjust.All(n, list...); got != n || !ok {
				t.Errorf("All of %d by none: %d, %v", n, got, ok)
			}
		}
		if got, ok := adjust.All(n); got != n || !ok {
			t.Errorf("All of %d by none: %d, %v", n, got, ok)
		}
	}
}

// P12.1: what is beyond 64 bits on the way stays without an answer, whatever stands behind it, and ahead of it.
func TestBeyondOnTheWay(t *testing.T) {
	for _, c := range []struct {
		n      int
		beyond api.Adjust
	}{
		{math.MaxInt, added(1)}, {math.MinInt, added(-1)}, {math.MaxInt, percent(100001, api.Floor)}, {math.MinInt, percent(100001, api.Ceil)}, {math.MinInt, percent(-api.Whole, api.Floor)}, {1 << 62, added(1 << 62)}, {1 << 62, percent(400000, api.HalfEven)}, {math.MaxInt, percent(math.MaxInt, api.HalfUp)},
	} {
		for _, behind := range [][]api.Adjust{nil, {capped(3)}, {minimum(3)}, {added(-5)}, {added(5)}, {percent(0, api.Floor)}, {percent(50000, api.Floor)}, {minimum(math.MaxInt), capped(0)}, {{}}} {
			for _, ahead := range [][]api.Adjust{nil, {added(0)}, {percent(api.Whole, api.Floor)}, {capped(math.MaxInt), minimum(math.MinInt)}} {
				if n, ok := adjust.All(c.n, slices.Concat(ahead, []api.Adjust{c.beyond}, behind)...); n != 0 || ok {
					t.Errorf("%d by %+v, %+v, %+v: %d, %v", c.n, ahead, c.beyond, behind, n, ok)
				}
			}
		}
	}
	// What is beyond 64 bits of the amount itself isn't, behind a cap.
	if n, ok := adjust.All(math.MaxInt, capped(5), percent(api.MaxPercent, api.Floor), added(1)); n != 5001 || !ok {
		t.Errorf("capped first: %d, %v", n, ok)
	}
}

// P12.1: rows of adjustments made at random, such as plans have them and any others, held against numbers without an end.
func TestAllAtRandom(t *testing.T) {
	r := rand.New(rand.NewSource(12))
	found := map[bool]int{}
	for i := range 200000 {
		list := make([]api.Adjust, r.Intn(api.MaxAdjusts+2))
		for k := range list {
			list[k] = pick(r, ordinary, above, odd)(r)
			if i%2 == 0 {
				list[k] = ordinary(r)
			}
		}
		n := pick(r, r.Intn(api.MaxAmount+1), anywhere(r), r.Intn(5000)-1000)
		found[holdAll(t, n, list...)]++
		if len(list) > 0 {
			holdOne(t, list[0], n)
		}
	}
	if found[true] < 50000 || found[false] < 20000 {
		t.Errorf("%v", found)
	}
}

// P12.1: All by a row is All by its second part, of what All by its first part made.
func TestInTwoParts(t *testing.T) {
	r := rand.New(rand.NewSource(121))
	for range 20000 {
		list := make([]api.Adjust, r.Intn(api.MaxAdjusts+1))
		for k := range list {
			list[k] = pick(r, ordinary, ordinary, odd)(r)
		}
		n, cut := pick(r, anywhere(r), r.Intn(1000000)), r.Intn(len(list)+1)
		want, has := adjust.All(n, list...)
		got, ok := adjust.All(n, list[:cut]...)
		if ok {
			got, ok = adjust.All(got, list[cut:]...)
		}
		if got != want || ok != has {
			t.Fatalf("All of %d, %+v: %d, %v, cut at %d: %d, %v", n, list, want, has, cut, got, ok)
		}
	}
}

// P12.1: what is handed in isn't changed, spare room included, and answers hang on it alone.
func TestUnchanged(t *testing.T) {
	r := rand.New(rand.NewSource(122))
	for range 2000 {
		room := make([]api.Adjust, 10)
		for k := range room {
			room[k] = pick(r, ordinary, odd)(r)
		}
		before, n := slices.Clone(room), anywhere(r)
		for size := range len(room) {
			first, has := adjust.All(n, room[:size]...)
			if again, ok := adjust.All(n, room[:size]...); again != first || ok != has {
				t.Fatalf("All of %d, %+v: %d, %v, then %d, %v", n, room[:size], first, has, again, ok)
			}
			if !slices.Equal(room, before) {
				t.Fatalf("%+v, not %+v", room, before)
			}
		}
	}
}

// neverLess: P12.2, of amounts that rise: what they become rises, too, where there is an answer; how many have one.
func neverLess(t *testing.T, amounts []int, list ...api.Adjust) int {
	t.Helper()
	last, answers := math.MinInt, 0
	for _, n := range amounts {
		got, ok := adjust.All(n, list...)
		if !ok {
			continue
		}
		answers++
		if got < last {
			t.Fatalf("%d by %+v: %d, but a lesser amount %d", n, list, got, last)
		}
		last = got
	}
	return answers
}

// P12.2: a greater amount never becomes less than a lesser one, by one adjustment whose N isn't below 0.
func TestNeverLessByOne(t *testing.T) {
	amounts := numbers()
	for n := -300; n <= 300; n++ {
		amounts = append(amounts, n)
	}
	slices.Sort(amounts)
	for _, by := range numbers() {
		if by < 0 {
			continue
		}
		for kind := api.Percent; kind <= api.Add; kind++ {
			for _, mode := range modes {
				a := api.Adjust{Kind: kind, N: by, Mode: mode}
				if answers := neverLess(t, amounts, a); answers == 0 {
					t.Errorf("no answer by %+v", a)
				}
				for _, n := range amounts[:len(amounts)-1] {
					next, ok := adjust.One(a, n+1)
					got, has := adjust.One(a, n)
					if ok && has && next < got {
						t.Fatalf("%d, and one more, by %+v: %d, %d", n, a, got, next)
					}
				}
			}
		}
	}
}

// P12.2: the same by rows of them, made at random.
func TestNeverLessByAll(t *testing.T) {
	r := rand.New(rand.NewSource(123))
	answers := 0
	for range 5000 {
		list := make([]api.Adjust, r.Intn(api.MaxAdjusts+1))
		for k := range list {
			list[k] = pick(r, ordinary, above)(r)
		}
		amounts := []int{math.MinInt, math.MaxInt}
		from, step := r.Intn(2000)-1000, pick(r, 1, 7, 1000003)
		for i := range 100 {
			amounts = append(amounts, anywhere(r), from+i*step)
		}
		for _, a := range list {
			amounts = append(amounts, max(a.N, 1)-1, a.N, min(a.N, math.MaxInt-1)+1)
		}
		slices.Sort(amounts)
		answers += neverLess(t, amounts, list...)
	}
	if answers < 300000 {
		t.Errorf("only %d answers", answers)
	}
}
