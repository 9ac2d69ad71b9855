package line_test

import (
	"math/rand"
	"slices"
	"testing"

	"poundage/line"
)

// row is a line by a second telling: the number of its first value, and each value.
type row[T comparable] struct {
	from int
	list []T
}

// at: the value at a number; false: there is none.
func (w row[T]) at(x int) (T, bool) {
	for i, v := range w.list {
		if w.from+i == x {
			return v, true
		}
	}
	var none T
	return none, false
}

// turned: what comes of each value of a row.
func turned[A, B comparable](w row[A], of func(A) B) row[B] {
	made := row[B]{from: w.from}
	for _, v := range w.list {
		made.list = append(made.list, of(v))
	}
	return made
}

// zipped: what comes of the values of two rows, at each number that both have.
func zipped[A, B, C comparable](a row[A], b row[B], of func(A, B) C) row[C] {
	var made row[C]
	for i, v := range a.list {
		u, ok := b.at(a.from + i)
		if !ok {
			continue
		}
		if len(made.list) == 0 {
			made.from = a.from + i
		}
		made.list = append(made.list, of(v, u))
	}
	return made
}

// filled: a row with one value at each of its numbers from one to another one.
func filled[T comparable](w row[T], from, to int, v T) row[T] {
	w.list = slices.Clone(w.list)
	for x := from; x <= to; x++ {
		if _, ok := w.at(x); ok {
			w.list[x-w.from] = v
		}
	}
	return w
}

// same: whether two rows have the same values at the same numbers.
func same[T comparable](a, b row[T]) bool {
	return slices.Equal(a.list, b.list) && (a.from == b.from || len(a.list) == 0)
}

// hold: a line, held against a row in all that is told of one line.
func hold[T comparable](t *testing.T, l line.Line[T], w row[T]) {
	t.Helper()
	first, last, some := 0, 0, len(w.list) > 0
	if some {
		first, last = w.from, w.from+len(w.list)-1
	}
	if a, b, ok := l.Span(); a != first || b != last || ok != some {
		t.Fatalf("%v: Span %d, %d, %v", w, a, b, ok)
	}
	for x := first - 3; x <= last+3; x++ {
		want, there := w.at(x)
		if v, ok := l.At(x); v != want || ok != there {
			t.Fatalf("%v at %d: %v, %v", w, x, v, ok)
		}
	}
	holdRuns(t, l, w)
	if !line.Equal(l, l) || !line.Equal(l, line.Of(w.from, w.list...)) || !line.Equal(line.Of(w.from, w.list...), l) {
		t.Fatalf("%v isn't its own list", w)
	}
	for i := range w.list {
		less := line.Of(w.from, w.list[:i]...)
		if line.Equal(l, less) || line.Equal(less, l) || line.Equal(l, line.Of(w.from+1, w.list...)) {
			t.Fatalf("%v is as %d of it", w, i)
		}
	}
}

// holdRuns: a line's runs, held against a row: they are all of it, and as few as can be.
func holdRuns[T comparable](t *testing.T, l line.Line[T], w row[T]) {
	t.Helper()
	runs := slices.Collect(l.Runs())
	if l.Count() != len(runs) || !slices.Equal(runs, slices.Collect(l.Runs())) {
		t.Fatalf("%v: %d runs, gone over %v", w, l.Count(), runs)
	}
	var list []T
	for i, r := range runs {
		if r.From != w.from+len(list) || r.To < r.From || i > 0 && runs[i-1].Value == r.Value {
			t.Fatalf("%v: runs %v", w, runs)
		}
		for range r.To - r.From + 1 {
			list = append(list, r.Value)
		}
	}
	if !slices.Equal(list, w.list) {
		t.Fatalf("%v: runs %v", w, runs)
	}
}

// pick: one of some, at random.
func pick[T any](r *rand.Rand, list ...T) T { return list[r.Intn(len(list))] }

// random: a line and the row of it, of some values, at random, made by one call.
func random[T comparable](r *rand.Rand, values ...T) (line.Line[T], row[T]) {
	w := row[T]{from: pick(r, 0, -1, 1, r.Intn(13)-6)}
	size, v := pick(r, 0, 1, 2, r.Intn(12), r.Intn(12)), pick(r, values...)
	flat := r.Intn(4) == 0
	for range size {
		if !flat && r.Intn(2) == 0 {
			v = pick(r, values...)
		}
		w.list = append(w.list, v)
	}
	if flat {
		return line.Flat(w.from, w.from+size-1-pick(r, 0, max(0, 1-size)), v), w
	}
	return line.Of(w.from, w.list...), w
}

// walk: lines made of lines, at random, each held against its row.
func walk[T comparable](t *testing.T, r *rand.Rand, values ...T) {
	t.Helper()
	of := func(v T) T { return values[(slices.Index(values, v)+1)%(1+len(values)/2)] }
	both := func(a, b T) T { return values[(slices.Index(values, a)*slices.Index(values, b))%len(values)] }
	l, w := random(r, values...)
	for range 1 + r.Intn(8) {
		hold(t, l, w)
		old, was := l, w
		switch r.Intn(3) {
		case 0:
			l, w = line.Map(l, of), turned(w, of)
		case 1:
			from := w.from + r.Intn(len(w.list)+6) - 3
			to, v := from+pick(r, -1, 0, r.Intn(5), r.Intn(14)-3), pick(r, values...)
			l, w = line.Fill(l, from, to, v), filled(w, from, to, v)
		default:
			m, u := random(r, values...)
			if r.Intn(2) == 0 {
				m, u = line.Of(w.from-1, slices.Repeat(values, 5)...), row[T]{w.from - 1, slices.Repeat(values, 5)}
			}
			if line.Equal(l, m) != same(w, u) || line.Equal(m, l) != same(w, u) {
				t.Fatalf("%v and %v: %v", w, u, line.Equal(l, m))
			}
			l, w = line.Zip(l, m, both), zipped(w, u, both)
			hold(t, m, u)
		}
		// What a line is made of stays as it was.
		hold(t, old, was)
	}
	hold(t, l, w)
}
