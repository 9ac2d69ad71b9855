package line_test

import (
	"fmt"
	"math"
	"math/rand"
	"slices"
	"sync"
	"testing"

	"poundage/line"
)

// far is the greatest number of a line of which something is promised.
const far = 1 << 40

// run: a run of a whole number.
func run(from, to, v int) line.Run[int] { return line.Run[int]{From: from, To: to, Value: v} }

// runs: a line has these runs, and no others.
func runs[T comparable](t *testing.T, l line.Line[T], want ...line.Run[T]) {
	t.Helper()
	if got := slices.Collect(l.Runs()); !slices.Equal(got, want) || l.Count() != len(want) {
		t.Errorf("%d runs, %v, not %v", l.Count(), got, want)
	}
}

// P14.1: the document's example.
func TestExample(t *testing.T) {
	l := line.Of(5, 1, 1, 2)
	runs(t, l, run(5, 6, 1), run(7, 7, 2))
	hold(t, l, row[int]{5, []int{1, 1, 2}})
}

// P14.1: Of: the values of a list, from a number on; of no list there is nothing.
func TestOf(t *testing.T) {
	for _, from := range []int{-far, -7, -1, 0, 1, 5, far - 9} {
		for _, list := range [][]int{nil, {}, {0}, {4}, {0, 0}, {1, 2}, {1, 1, 1, 2, 1, 1, 3, 3}, {0, 0, 1}, {math.MinInt, math.MaxInt, math.MaxInt}} {
			hold(t, line.Of(from, list...), row[int]{from, list})
		}
	}
}

// P14.1: Flat: one value at each number from one to another one; nothing, if that is below it.
func TestFlat(t *testing.T) {
	for from := -4; from <= 4; from++ {
		for to := from; to <= 6; to++ {
			runs(t, line.Flat(from, to, 7), run(from, to, 7))
			runs(t, line.Flat(from, to, 0), run(from, to, 0))
			hold(t, line.Flat(from, to, "x"), row[string]{from, slices.Repeat([]string{"x"}, to-from+1)})
		}
		for to := from - 5; to < from; to++ {
			hold(t, line.Flat(from, to, 7), row[int]{})
		}
	}
	for _, ends := range [][2]int{{far, -far}, {0, -far}, {far, far - 1}, {-far + 1, -far}} {
		hold(t, line.Flat(ends[0], ends[1], 1), row[int]{})
	}
}

// P14.1: Span, At, Count and Runs of lines that are as wide as may be.
func TestWide(t *testing.T) {
	l := line.Flat(-far, far, 3)
	runs(t, l, run(-far, far, 3))
	l = line.Fill(line.Fill(l, -far, -far, 1), far, far, 2)
	runs(t, l, run(-far, -far, 1), run(-far+1, far-1, 3), run(far, far, 2))
	l = line.Fill(l, 0, 9, 0)
	runs(t, l, run(-far, -far, 1), run(-far+1, -1, 3), run(0, 9, 0), run(10, far-1, 3), run(far, far, 2))
	if a, b, ok := l.Span(); a != -far || b != far || !ok {
		t.Errorf("Span %d, %d, %v", a, b, ok)
	}
	for x, want := range map[int]int{-far: 1, -far + 1: 3, -1 << 32: 3, -1: 3, 0: 0, 9: 0, 10: 3, 1 << 32: 3, far - 1: 3, far: 2} {
		if v, ok := l.At(x); v != want || !ok {
			t.Errorf("at %d: %d, %v, not %d", x, v, ok, want)
		}
	}
	double := line.Map(l, func(v int) int { return v * 2 % 4 })
	runs(t, double, run(-far, -1, 2), run(0, 9, 0), run(10, far-1, 2), run(far, far, 0))
	sum := line.Zip(l, double, func(a, b int) int { return a + b })
	runs(t, sum, run(-far, -far, 3), run(-far+1, -1, 5), run(0, 9, 0), run(10, far-1, 5), run(far, far, 2))
	if line.Equal(l, double) || !line.Equal(sum, line.Zip(double, l, func(a, b int) int { return a + b })) {
		t.Error("Equal")
	}
}

// P14.1: At: a zero value and false where there is none, far off, too.
func TestAtNothing(t *testing.T) {
	for _, x := range []int{math.MinInt, -far, -1 << 32, -1, 4, 8, 1 << 32, far, math.MaxInt} {
		if v, ok := line.Of(5, "a", "b", "b").At(x); v != "" || ok {
			t.Errorf("%d: %q, %v", x, v, ok)
		}
	}
}

// P14.1: a zero line has nothing: by no call.
func TestZero(t *testing.T) {
	var l line.Line[int]
	hold(t, l, row[int]{})
	for _, x := range []int{math.MinInt, -1, 0, 1, math.MaxInt} {
		if v, ok := l.At(x); v != 0 || ok {
			t.Errorf("%d: %d, %v", x, v, ok)
		}
	}
	never := func(a, b int) int { t.Error("asked of nothing"); return 0 }
	for _, other := range []line.Line[int]{{}, line.Of(0, 0), line.Flat(-far, far, 0), line.Of[int](7), line.Flat(1, 0, 5)} {
		hold(t, line.Zip(l, other, never), row[int]{})
		hold(t, line.Zip(other, l, never), row[int]{})
		if nothing := other.Count() == 0; line.Equal(l, other) != nothing || line.Equal(other, l) != nothing {
			t.Errorf("Equal to %v", slices.Collect(other.Runs()))
		}
	}
	hold(t, line.Map(l, func(v int) string { t.Error("asked of nothing"); return "" }), row[string]{})
	for _, ends := range [][2]int{{0, 0}, {0, 9}, {-far, far}, {1, 0}} {
		hold(t, line.Fill(l, ends[0], ends[1], 1), row[int]{})
	}
}

// P14.1: Equal: the same values at the same numbers, however a line was made.
func TestEqual(t *testing.T) {
	l := line.Of(3, 1, 1, 2)
	for _, other := range []line.Line[int]{
		line.Fill(line.Flat(3, 5, 1), 5, 5, 2), line.Fill(line.Flat(3, 5, 2), 3, 4, 1), line.Map(line.Of(3, 10, 11, 20), func(v int) int { return v / 10 }),
		line.Zip(line.Of(2, 9, 1, 1, 2), line.Flat(3, 9, 0), func(a, b int) int { return a }),
	} {
		if !line.Equal(l, other) || !line.Equal(other, l) {
			t.Errorf("%v isn't it", slices.Collect(other.Runs()))
		}
	}
	for _, other := range []line.Line[int]{
		line.Of(2, 1, 1, 2), line.Of(4, 1, 1, 2), line.Of(3, 1, 1, 3), line.Of(3, 0, 1, 2), line.Of(3, 1, 2, 2), line.Of(3, 1, 1), line.Of(4, 1, 2), line.Of(3, 1, 1, 2, 2), line.Of(2, 1, 1, 1, 2), line.Of(3, 1, 2), line.Of(3, 2, 1, 1), {},
	} {
		if line.Equal(l, other) || line.Equal(other, l) {
			t.Errorf("%v is it", slices.Collect(other.Runs()))
		}
	}
}

// P14.1: Zip: only at numbers that both have, with the first line's value first; of any types.
func TestZip(t *testing.T) {
	of := func(n int, s string) [2]string { return [2]string{fmt.Sprint(n), s} }
	a := row[int]{2, []int{1, 1, 2, 2, 3}}
	for from := -3; from <= 9; from++ {
		for size := range 9 {
			b := row[string]{from, []string{"x", "x", "x", "y", "z", "z", "x", "x"}[:size]}
			hold(t, line.Zip(line.Of(a.from, a.list...), line.Of(b.from, b.list...), of), zipped(a, b, of))
			turn := func(s string, n int) [2]string { return [2]string{s, fmt.Sprint(n)} }
			hold(t, line.Zip(line.Of(b.from, b.list...), line.Of(a.from, a.list...), turn), zipped(b, a, turn))
		}
	}
}

// P14.1: Zip and Map ask of values that are there, at one number, each at most once a number.
func TestAsked(t *testing.T) {
	a, b := row[int]{0, []int{1, 1, 2, 2, 3, 3, 3}}, row[int]{-2, []int{8, 8, 8, 9, 9, 9, 8, 8}}
	want, asked := map[[2]int]int{}, map[[2]int]int{}
	count := func(of map[[2]int]int) func(int, int) int {
		return func(x, y int) int { of[[2]int{x, y}]++; return x * y }
	}
	hold(t, line.Zip(line.Of(a.from, a.list...), line.Of(b.from, b.list...), count(asked)), zipped(a, b, count(want)))
	atMost(t, asked, want)
	want, asked = map[[2]int]int{}, map[[2]int]int{}
	one := func(of map[[2]int]int) func(int) int {
		return func(x int) int { return count(of)(x, 0) }
	}
	hold(t, line.Map(line.Of(a.from, a.list...), one(asked)), turned(a, one(want)))
	atMost(t, asked, want)
}

// atMost: each two values have been asked of, but no oftener than they stand at a number.
func atMost(t *testing.T, asked, want map[[2]int]int) {
	t.Helper()
	for v, n := range asked {
		if n > want[v] {
			t.Errorf("%v asked %d times", v, n)
		}
	}
	for v := range want {
		if asked[v] == 0 {
			t.Errorf("%v not asked", v)
		}
	}
}

// P14.1: Map: what comes of each value, at its number; of any types.
func TestMap(t *testing.T) {
	w := row[int]{-2, []int{5, -5, 5, 4, 4, 0, 1, -1}}
	l := line.Of(w.from, w.list...)
	square := func(v int) int { return v * v }
	text := func(v int) string { return fmt.Sprint(v) }
	even := func(v int) bool { return v%2 == 0 }
	hold(t, line.Map(l, square), turned(w, square))
	hold(t, line.Map(l, text), turned(w, text))
	hold(t, line.Map(l, even), turned(w, even))
	runs(t, line.Map(l, func(int) string { return "x" }), line.Run[string]{From: -2, To: 5, Value: "x"})
}

// P14.1: Fill: each way in which the filled numbers may lie to the line's own; turned round they are none.
func TestFill(t *testing.T) {
	w := row[int]{2, []int{1, 1, 2, 1, 3, 3}}
	l := line.Of(w.from, w.list...)
	for from := -1; from <= 10; from++ {
		for to := -2; to <= 11; to++ {
			for v := range 5 {
				hold(t, line.Fill(l, from, to, v), filled(w, from, to, v))
			}
		}
		for _, end := range []int{far, 1 << 32} {
			hold(t, line.Fill(l, from, end, 4), filled(w, from, 20, 4))
			hold(t, line.Fill(l, -end, from, 4), filled(w, -20, from, 4))
			hold(t, line.Fill(l, end, from, 4), w)
			hold(t, line.Fill(l, from, -end, 4), w)
		}
	}
	hold(t, l, w)
}

// P14.1: lines of values of all kinds that can be compared.
func TestTypes(t *testing.T) {
	type inner struct {
		name string
		two  [2]int
	}
	type number float64
	r := rand.New(rand.NewSource(141))
	x, y := new(int), new(int)
	for range 300 {
		walk(t, r, "", "a", "b", "ab")
		walk(t, r, false, true)
		walk(t, r, inner{}, inner{"a", [2]int{1, 2}}, inner{"a", [2]int{2, 1}}, inner{"b", [2]int{1, 2}})
		walk(t, r, nil, x, y)
		walk(t, r, any(nil), any(1), any("1"), any(uint8(1)))
		walk(t, r, number(0), 0.5, -1, number(math.Inf(1)))
		walk(t, r, 'a', 'b', 0)
		walk(t, r, uint64(0), 1<<63, math.MaxUint64)
	}
}

// P14.1, P14.2: lines made of lines, and all that is told of them, against a second telling.
func TestRandom(t *testing.T) {
	r := rand.New(rand.NewSource(142))
	for range 6000 {
		walk(t, r, 0, 1, 2)
		walk(t, r, 0, 1, -1, math.MinInt, math.MaxInt)
	}
}

// P14.2: as few runs as can be, where values become alike by Of, Map, Zip and Fill; the runs are the line again.
func TestFewRuns(t *testing.T) {
	l := line.Of(0, 1, 2, 3, 4, 5)
	runs(t, line.Map(l, func(v int) int { return v / 2 }), run(0, 0, 0), run(1, 2, 1), run(3, 4, 2))
	runs(t, line.Zip(l, line.Of(0, 5, 4, 3, 2, 1), func(a, b int) int { return a + b }), run(0, 4, 6))
	runs(t, line.Fill(line.Of(0, 1, 1, 2, 1, 1), 2, 2, 1), run(0, 4, 1))
	runs(t, line.Fill(l, 1, 2, 1), run(0, 2, 1), run(3, 3, 4), run(4, 4, 5))
	runs(t, line.Fill(l, 2, 3, 5), run(0, 0, 1), run(1, 1, 2), run(2, 4, 5))
	runs(t, line.Fill(l, 3, 3, 4), run(0, 0, 1), run(1, 1, 2), run(2, 2, 3), run(3, 3, 4), run(4, 4, 5))
	again := line.Flat(0, 4, 0)
	for r := range line.Fill(l, 1, 2, 1).Runs() {
		again = line.Fill(again, r.From, r.To, r.Value)
	}
	hold(t, again, row[int]{0, []int{1, 1, 1, 4, 5}})
}

// P14.1: what is gone over may be left at any time, gone over again, and gone over within itself.
func TestRunsLeft(t *testing.T) {
	l := line.Of(0, 1, 2, 2, 3)
	all := []line.Run[int]{run(0, 0, 1), run(1, 2, 2), run(3, 3, 3)}
	seq := l.Runs()
	for n := range 4 {
		var got []line.Run[int]
		for r := range seq {
			if len(got) == n {
				break
			}
			got = append(got, r)
		}
		if !slices.Equal(got, all[:n]) {
			t.Errorf("left behind %d: %v", n, got)
		}
	}
	count := 0
	for a := range seq {
		for b := range seq {
			if a == all[count/3] && b == all[count%3] {
				count++
			}
		}
	}
	if count != 9 || !slices.Equal(slices.Collect(seq), all) {
		t.Errorf("%d times, %v", count, slices.Collect(seq))
	}
}

// P14.1: the list that is handed in isn't changed, spare room included, and isn't kept.
func TestListUntouched(t *testing.T) {
	whole := []int{1, 1, 2, 3, 3, 9, 9, 8}
	was := slices.Clone(whole)
	l := line.Of(4, whole[1:5]...)
	line.Fill(l, 0, 6, 7)
	line.Map(l, func(v int) int { return v + 1 })
	line.Zip(l, l, func(a, b int) int { return a * b })
	if !slices.Equal(whole, was) {
		t.Errorf("%v", whole)
	}
	clear(whole)
	hold(t, l, row[int]{4, []int{1, 2, 3, 3}})
}

// P14.1: lines never change: not one of which others are made, nor a copy of it, nor what was collected of it.
func TestNeverChanged(t *testing.T) {
	w := row[int]{0, []int{1, 1, 2, 2, 3}}
	l := line.Of(w.from, w.list...)
	held := l
	got := slices.Collect(l.Runs())
	for i := range got {
		got[i] = run(-9, 9, -9)
	}
	for v := range 5 {
		for from := -1; from < 6; from++ {
			one, other := line.Fill(l, from, from+1, v), line.Fill(l, from, 9, v+1)
			hold(t, one, filled(w, from, from+1, v))
			hold(t, other, filled(w, from, 9, v+1))
			hold(t, line.Fill(one, 0, 9, 7), filled(w, 0, 9, 7))
			hold(t, one, filled(w, from, from+1, v))
			hold(t, line.Fill(l, 9, 3, v), w)
		}
	}
	hold(t, l, w)
	hold(t, held, w)
}

// P14.1: the same answers, however many goroutines ask at once.
func TestAtOnce(t *testing.T) {
	w := row[int]{0, []int{1, 2, 2, 3}}
	l := line.Of(w.from, w.list...)
	rest := func(v int) int { return v % 3 }
	sum := func(a, b int) int { return a + b }
	want := zipped(filled(w, 2, 9, 5), turned(w, rest), sum)
	var wait sync.WaitGroup
	for range 8 {
		wait.Go(func() {
			for range 200 {
				got := line.Zip(line.Fill(l, 2, 9, 5), line.Map(l, rest), sum)
				if !line.Equal(got, line.Of(want.from, want.list...)) {
					t.Errorf("%v", slices.Collect(got.Runs()))
				}
			}
		})
	}
	wait.Wait()
}

// P14.1: beyond the numbers of which something is promised, the calls end.
func TestBeyond(t *testing.T) {
	ends := []int{math.MinInt, math.MinInt + 1, -far - 1, 0, far + 1, math.MaxInt - 1, math.MaxInt}
	for _, a := range ends {
		for _, b := range ends {
			l, m := line.Of(a, 1, 2, 2, 3), line.Flat(a, b, 1)
			line.Fill(l, a, b, 4).Count()
			line.Fill(m, b, a, 4).At(b)
			line.Equal(l, m)
			n := line.Zip(l, line.Of(b, 1, 2), func(x, y int) int { return x + y })
			line.Map(n, func(v int) bool { return v > 3 }).Span()
			for r := range line.Zip(m, n, func(x, y int) int { return x - y }).Runs() {
				l.At(r.From)
			}
		}
	}
}
