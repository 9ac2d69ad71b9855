package tiers_test

import (
	"math"
	"math/rand"
	"slices"
	"sync"
	"testing"

	"poundage/api"
	"poundage/tiers"
)

// example: up to 10 at 2, the rest at 1.
func example(kind int) api.Part {
	return api.Part{Block: 1, Kind: kind, Tiers: []api.Tier{{Upto: 10, Rate: 2000000}, {Rate: 1000000}}}
}

// flat: one tier of a rate.
func flat(rate int) api.Part {
	return api.Part{Block: 1, Kind: api.Graduated, Tiers: []api.Tier{{Rate: rate}}}
}

// steep: three tiers, of which the middle one costs nothing, with an allowance and a block that play no part in Steps.
func steep(kind int) api.Part {
	return api.Part{Allowance: 5, Block: 4, Kind: kind, Tiers: []api.Tier{{Upto: 1, Rate: 7}, {Upto: 20, Rate: 0}, {Rate: 7}}}
}

// P11.1: the document's examples.
func TestExamples(t *testing.T) {
	for kind, want := range map[int]int{api.Graduated: 25, api.Volume: 15} {
		if n, ok := tiers.Charge(example(kind), 15); n != want || !ok {
			t.Errorf("kind %d: %d, %v", kind, n, ok)
		}
		if n, ok := tiers.Micro(example(kind), 15); n != want*1000000 || !ok {
			t.Errorf("kind %d: %d, %v", kind, n, ok)
		}
	}
}

// P11.1: what is left, by allowances and blocks.
func TestQuantity(t *testing.T) {
	for _, c := range []struct {
		allowance, block, q, want int
		ok                        bool
	}{
		{0, 1, 0, 0, true}, {0, 1, 1, 1, true}, {0, 1, 2000, 2000, true}, {0, 1, math.MaxInt, math.MaxInt, true},
		{0, 4, 0, 0, true}, {0, 4, 1, 4, true}, {0, 4, 3, 4, true}, {0, 4, 4, 4, true}, {0, 4, 5, 8, true},
		{5, 1, 0, 0, true}, {5, 1, 4, 0, true}, {5, 1, 5, 0, true}, {5, 1, 6, 1, true}, {5, 1, 2000, 1995, true},
		{5, 4, 0, 0, true}, {5, 4, 5, 0, true}, {5, 4, 6, 4, true}, {5, 4, 8, 4, true}, {5, 4, 9, 4, true}, {5, 4, 10, 8, true},
		{1000000, 1, 1000000, 0, true}, {1000000, 1, 1000001, 1, true}, {1000000, 1000000, 1000001, 1000000, true}, {1000000, 1000000, 2000000, 1000000, true}, {1000000, 1000000, 2000001, 2000000, true},
		{0, 1000000, 0, 0, true}, {0, 1000000, 1, 1000000, true},
		{1, 1, math.MaxInt, math.MaxInt - 1, true}, {1000000, 1, math.MaxInt, math.MaxInt - 1000000, true},
		{0, 2, math.MaxInt, 0, false}, {0, 2, math.MaxInt - 1, math.MaxInt - 1, true}, {1, 2, math.MaxInt, math.MaxInt - 1, true},
		{0, 1000000, 9223372036854000000, 9223372036854000000, true}, {0, 1000000, 9223372036854000001, 0, false}, {1, 1000000, 9223372036854000001, 9223372036854000000, true}, {0, 1000000, math.MaxInt, 0, false}, {1000000, 1000000, math.MaxInt, 9223372036854000000, true},
		{0, 1, -1, 0, false}, {5, 4, -1, 0, false}, {0, 1, math.MinInt, 0, false}, {1000000, 1000000, math.MinInt, 0, false}, {5, 3, -3, 0, false},
	} {
		for kind := range 4 {
			x := api.Part{Allowance: c.allowance, Block: c.block, Kind: kind, Tiers: []api.Tier{{Rate: 0}}}
			if n, ok := tiers.Quantity(x, c.q); n != c.want || ok != c.ok {
				t.Errorf("%d of kind %d with allowance %d, block %d: %d, %v, not %d, %v", c.q, kind, c.allowance, c.block, n, ok, c.want, c.ok)
			}
			if n, ok := tiers.Micro(x, c.q); n != 0 || ok != c.ok {
				t.Errorf("%d of kind %d with allowance %d, block %d costs %d, %v", c.q, kind, c.allowance, c.block, n, ok)
			}
			if n, ok := tiers.Charge(x, c.q); n != 0 || ok != c.ok {
				t.Errorf("%d of kind %d with allowance %d, block %d costs %d, %v", c.q, kind, c.allowance, c.block, n, ok)
			}
		}
	}
}

// P11.1: steps about the tiers' ends; neither the allowance nor the block counts, but a rate of 0 does.
func TestSteps(t *testing.T) {
	type steps = []tiers.Step
	graduated := map[int]steps{
		math.MinInt: nil, -20: nil, -1: nil, 0: nil,
		1: {{0, 1, 7}}, 2: {{0, 1, 7}, {1, 2, 0}}, 19: {{0, 1, 7}, {1, 19, 0}}, 20: {{0, 1, 7}, {1, 20, 0}},
		21: {{0, 1, 7}, {1, 20, 0}, {20, 21, 7}}, 50: {{0, 1, 7}, {1, 20, 0}, {20, 50, 7}}, math.MaxInt: {{0, 1, 7}, {1, 20, 0}, {20, math.MaxInt, 7}},
	}
	volume := map[int]steps{
		math.MinInt: nil, -20: nil, -1: nil, 0: nil,
		1: {{0, 1, 7}}, 2: {{0, 2, 0}}, 19: {{0, 19, 0}}, 20: {{0, 20, 0}}, 21: {{0, 21, 7}}, 50: {{0, 50, 7}}, math.MaxInt: {{0, math.MaxInt, 7}},
	}
	for kind, table := range map[int]map[int]steps{math.MinInt: graduated, -1: graduated, 0: graduated, api.Graduated: graduated, api.Volume: volume, 3: graduated, 4: graduated, 1<<32 + 2: graduated, math.MaxInt: graduated} {
		for q, want := range table {
			if got := slices.Collect(tiers.Steps(steep(kind), q)); !slices.Equal(got, want) {
				t.Errorf("%d of kind %d: %v, not %v", q, kind, got, want)
			}
		}
	}
	for kind := range 4 {
		x := flat(9)
		x.Kind = kind
		for q := -3; q < 40; q++ {
			var want steps
			if q > 0 {
				want = steps{{0, q, 9}}
			}
			if got := slices.Collect(tiers.Steps(x, q)); !slices.Equal(got, want) {
				t.Errorf("%d of kind %d by one tier: %v", q, kind, got)
			}
		}
	}
}

// P11.1: a kind that isn't Volume costs what Graduated does.
func TestOtherKinds(t *testing.T) {
	for _, kind := range []int{math.MinInt, -1, 0, 3, 4, 1<<32 + 2, math.MaxInt} {
		for q := range 60 {
			want, _ := tiers.Micro(steep(api.Graduated), q)
			if n, ok := tiers.Micro(steep(kind), q); n != want || !ok {
				t.Errorf("%d of kind %d: %d, %v, not %d", q, kind, n, ok, want)
			}
		}
	}
}

// P11.1: what is gone over may be left at any time, and then asks no more.
func TestLeftEarly(t *testing.T) {
	for kind := range 4 {
		for _, q := range []int{-1, 0, 1, 15, 30} {
			seq := tiers.Steps(steep(kind), q)
			whole := slices.Collect(seq)
			for most := 1; most <= len(whole); most++ {
				var got []tiers.Step
				seq(func(s tiers.Step) bool {
					got = append(got, s)
					return len(got) < most
				})
				if !slices.Equal(got, whole[:most]) {
					t.Errorf("%d of kind %d, left behind %d steps: %v, of %v", q, kind, most, got, whole)
				}
				for s := range seq {
					if s != whole[0] {
						t.Errorf("%d of kind %d, gone over anew: %v", q, kind, s)
					}
					break
				}
			}
		}
	}
}

// P11.1: steps are the same however often, within one another, and by however many they are gone over.
func TestGoneOverAgain(t *testing.T) {
	for kind := range 4 {
		seq := tiers.Steps(steep(kind), 30)
		want := slices.Collect(seq)
		for range seq {
			if got := slices.Collect(seq); len(want) == 0 || !slices.Equal(got, want) {
				t.Errorf("kind %d: %v, not %v", kind, got, want)
			}
		}
		var group sync.WaitGroup
		found := make([][]tiers.Step, 8)
		for i := range found {
			group.Go(func() { found[i] = slices.Collect(seq) })
		}
		group.Wait()
		for _, got := range found {
			if !slices.Equal(got, want) {
				t.Errorf("kind %d: %v, not %v", kind, got, want)
			}
		}
	}
}

// P11.1: the part's tiers aren't kept: steps are those of the tiers at the call.
func TestTiersNotKept(t *testing.T) {
	for kind := range 4 {
		x := steep(kind)
		want := slices.Collect(tiers.Steps(x, 30))
		seq := tiers.Steps(x, 30)
		clear(x.Tiers)
		if got := slices.Collect(seq); !slices.Equal(got, want) {
			t.Errorf("kind %d, changed behind the call: %v, not %v", kind, got, want)
		}
		x = steep(kind)
		var got []tiers.Step
		for s := range tiers.Steps(x, 30) {
			got = append(got, s)
			clear(x.Tiers)
		}
		if !slices.Equal(got, want) {
			t.Errorf("kind %d, changed on the way: %v, not %v", kind, got, want)
		}
	}
}

// P11.1: what is handed in isn't changed, spare room included.
func TestUnchanged(t *testing.T) {
	r := rand.New(rand.NewSource(111))
	for range 500 {
		x := randomPart(r)
		x.Tiers, x.Adjusts = slices.Grow(x.Tiers, 4), slices.Grow(x.Adjusts, 4)
		spare := x.Tiers[len(x.Tiers):cap(x.Tiers)]
		for i := range spare {
			spare[i] = api.Tier{Upto: i, Rate: 5}
		}
		before := all(x)
		for _, q := range ends(r, x) {
			tiers.Quantity(x, q)
			tiers.Micro(x, q)
			tiers.Charge(x, q)
			for range tiers.Steps(x, q) {
			}
		}
		if after := all(x); after != before {
			t.Fatalf("%s, not %s", after, before)
		}
	}
}

// P11.1: products and sums about the end of 64 bits.
func TestBeyond(t *testing.T) {
	two := func(first, rest int) api.Part {
		return api.Part{Block: 1, Kind: api.Graduated, Tiers: []api.Tier{{Upto: 1, Rate: first}, {Rate: rest}}}
	}
	volume := two(api.MaxAmount, 1)
	volume.Kind = api.Volume
	for _, c := range []struct {
		name    string
		x       api.Part
		q, want int
		ok      bool
	}{
		{"the greatest number", flat(1), math.MaxInt, math.MaxInt, true},
		{"nothing for it", flat(0), math.MaxInt, 0, true},
		{"a product", flat(2), math.MaxInt / 2, math.MaxInt - 1, true},
		{"a product beyond", flat(2), math.MaxInt/2 + 1, 0, false},
		{"a product far beyond, which would go round to 0", flat(4), 1 << 62, 0, false},
		{"the greatest rate", flat(api.MaxAmount), 9223372, 9223372000000000000, true},
		{"the greatest rate, beyond", flat(api.MaxAmount), 9223373, 0, false},
		{"a sum", two(2, 1), math.MaxInt - 1, math.MaxInt, true},
		{"a sum beyond", two(2, 1), math.MaxInt, 0, false},
		{"a sum with a great first step", two(api.MaxAmount, 1), math.MaxInt - api.MaxAmount + 1, math.MaxInt, true},
		{"a sum beyond, with a great first step", two(api.MaxAmount, 1), math.MaxInt - api.MaxAmount + 2, 0, false},
		{"a product beyond, behind a step", two(0, 2), math.MaxInt, 0, false},
		{"a last step of nothing", two(5, 0), math.MaxInt, 5, true},
		{"Volume, without the tiers ahead", volume, math.MaxInt, math.MaxInt, true},
	} {
		if n, ok := tiers.Micro(c.x, c.q); n != c.want || ok != c.ok {
			t.Errorf("%s: Micro %d, %v, not %d, %v", c.name, n, ok, c.want, c.ok)
		}
		if n, ok := tiers.Charge(c.x, c.q); n != c.want/1000000 || ok != c.ok {
			t.Errorf("%s: Charge %d, %v, not %d, %v", c.name, n, ok, c.want/1000000, c.ok)
		}
		hold(t, c.x, c.q)
	}
	if n, ok := tiers.Micro(flat(1), -1); n != 0 || ok {
		t.Errorf("Micro of -1: %d, %v", n, ok)
	}
	if n, ok := tiers.Charge(flat(1), -1); n != 0 || ok {
		t.Errorf("Charge of -1: %d, %v", n, ok)
	}
}

// P11.1: whole amounts, by each mode; steps are added up ahead of rounding.
func TestCharge(t *testing.T) {
	for micro, want := range map[int][4]int{
		0: {0, 0, 0, 0}, 1: {0, 1, 0, 0}, 499999: {0, 1, 0, 0}, 500000: {0, 1, 1, 0}, 500001: {0, 1, 1, 1}, 999999: {0, 1, 1, 1},
		1000000: {1, 1, 1, 1}, 1000001: {1, 2, 1, 1}, 1499999: {1, 2, 1, 1}, 1500000: {1, 2, 2, 2}, 1500001: {1, 2, 2, 2},
		2500000: {2, 3, 3, 2}, 999999999999: {999999, 1000000, 1000000, 1000000}, 1000000000000: {1000000, 1000000, 1000000, 1000000},
	} {
		for mode, whole := range want {
			x := flat(micro)
			x.Mode = mode
			if n, ok := tiers.Charge(x, 1); n != whole || !ok {
				t.Errorf("%d, by mode %d: %d, %v, not %d", micro, mode, n, ok, whole)
			}
			// The same in two steps: neither of them is rounded by itself.
			x.Tiers = []api.Tier{{Upto: 1, Rate: micro / 2}, {Rate: micro - micro/2}}
			if n, ok := tiers.Charge(x, 2); n != whole || !ok {
				t.Errorf("%d in two steps, by mode %d: %d, %v, not %d", micro, mode, n, ok, whole)
			}
		}
	}
}

// P11.1: as many tiers as there may be, of one unit each, and as far as they may reach.
func TestManyTiers(t *testing.T) {
	x := api.Part{Block: 1, Kind: api.Graduated}
	for i := range api.MaxTiers - 1 {
		x.Tiers = append(x.Tiers, api.Tier{Upto: i + 1, Rate: 1 << i})
	}
	x.Tiers = append(x.Tiers, api.Tier{Rate: 1 << 7})
	for q, want := range []int{0, 1, 3, 7, 15, 31, 63, 127, 255, 383} {
		if n, ok := tiers.Micro(x, q); n != want || !ok {
			t.Errorf("%d: %d, %v, not %d", q, n, ok, want)
		}
		hold(t, x, q)
	}
	x.Kind = api.Volume
	for q, want := range []int{0, 1, 4, 12, 32, 80, 192, 448, 1024, 1152} {
		if n, ok := tiers.Micro(x, q); n != want || !ok {
			t.Errorf("%d by Volume: %d, %v, not %d", q, n, ok, want)
		}
		hold(t, x, q)
	}
	x.Tiers[6].Upto = api.Micro
	for _, q := range []int{7, api.Micro - 1, api.Micro, api.Micro + 1, 1 << 40} {
		hold(t, x, q)
		graduated := x
		graduated.Kind = api.Graduated
		hold(t, graduated, q)
	}
}

// P11.1, P11.2: all parts of up to three short tiers, and of a few allowances and blocks, against the second telling.
func TestSmall(t *testing.T) {
	rates := []int{0, 1, 2, 500000, 1500000}
	for _, ends := range [][]int{{0}, {1, 0}, {4, 0}, {1, 2, 0}, {2, 5, 0}} {
		for n := range 125 {
			list := make([]api.Tier, len(ends))
			for i := range list {
				list[i] = api.Tier{Upto: ends[i], Rate: rates[[]int{n % 5, n / 5 % 5, n / 25}[i]]}
			}
			for way := range 2 * 3 * 3 {
				x := api.Part{Kind: 1 + way%2, Allowance: way / 2 % 3, Block: 1 + way/6, Mode: n % 4, Tiers: list}
				for q := -1; q < 12; q++ {
					hold(t, x, q)
				}
			}
		}
	}
}

// P11.1, P11.2: parts made at random, about all ends and anywhere, against the second telling.
func TestRandom(t *testing.T) {
	r := rand.New(rand.NewSource(11))
	found := map[bool]int{}
	for range 5000 {
		x := randomPart(r)
		for _, q := range ends(r, x) {
			hold(t, x, q)
			_, ok := tiers.Charge(x, q)
			found[ok]++
		}
	}
	if found[true] < 50000 || found[false] < 50000 {
		t.Errorf("%v", found)
	}
}

// P11.1: the meter, the days and the adjustments play no part, nor does what a mode is until all is rounded.
func TestNoPart(t *testing.T) {
	r := rand.New(rand.NewSource(112))
	for range 1000 {
		x := randomPart(r)
		y := api.Part{Allowance: x.Allowance, Block: x.Block, Kind: x.Kind, Tiers: x.Tiers, Mode: x.Mode}
		z := y
		z.Meter, z.From, z.To, z.Adjusts = math.MinInt, math.MaxInt, math.MinInt, []api.Adjust{{Kind: -1, N: -1, Mode: 9}, {Kind: api.Percent, N: 50000}}
		for _, q := range ends(r, x) {
			want, has := tiers.Charge(x, q)
			for _, other := range []api.Part{y, z} {
				if n, ok := tiers.Charge(other, q); n != want || ok != has {
					t.Fatalf("%d by %+v: %d, %v, by %+v: %d, %v", q, x, want, has, other, n, ok)
				}
			}
			other := x
			other.Mode = 9
			want, has = tiers.Micro(x, q)
			if n, ok := tiers.Micro(other, q); n != want || ok != has {
				t.Fatalf("%d by %+v: %d, %v, by mode 9: %d, %v", q, x, want, has, n, ok)
			}
		}
	}
}

// P11.2: Graduated, a greater quantity never costs less, in millionths and in whole amounts; by Volume one may.
func TestNeverLess(t *testing.T) {
	r := rand.New(rand.NewSource(113))
	less := 0
	for range 3000 {
		x := randomPart(r)
		list := ends(r, x)
		for q := range 120 {
			list = append(list, q)
		}
		slices.Sort(list)
		micro, whole := 0, 0
		for _, q := range list {
			n, ok := tiers.Micro(x, q)
			amount, has := tiers.Charge(x, q)
			if !ok || !has {
				continue
			}
			if n < micro || amount < whole {
				less++
				if x.Kind == api.Graduated {
					t.Fatalf("%d by %+v: %d, %d, less than %d, %d", q, x, n, amount, micro, whole)
				}
			}
			micro, whole = n, amount
		}
	}
	if less == 0 {
		t.Error("no part by Volume costs less for more")
	}
}

// P11.1: of parts that can't be, the calls end, without a panic, and answer alike; what has no answer has none besides.
func TestWrongParts(t *testing.T) {
	r := rand.New(rand.NewSource(114))
	odd := []int{math.MinInt, math.MinInt + 1, -1000000, -1, 0, 1, 1000001, math.MaxInt - 1, math.MaxInt}
	for range 5000 {
		x := randomPart(r)
		for range 1 + r.Intn(3) {
			*pick(r, &x.Allowance, &x.Block, &x.Kind, &x.Mode, &x.Tiers[0].Upto, &x.Tiers[0].Rate, &x.Tiers[len(x.Tiers)-1].Upto, &x.Tiers[len(x.Tiers)/2].Upto, &x.Tiers[len(x.Tiers)/2].Rate) = pick(r, odd...)
		}
		switch r.Intn(8) {
		case 0:
			x.Tiers = nil
		case 1:
			x.Tiers = slices.Repeat(x.Tiers, 9)
		case 2:
			slices.Reverse(x.Tiers)
		}
		for _, q := range append(odd, r.Intn(2000)) {
			left, hasLeft := tiers.Quantity(x, q)
			micro, hasMicro := tiers.Micro(x, q)
			whole, hasWhole := tiers.Charge(x, q)
			if !hasLeft && (left != 0 || hasMicro) || !hasMicro && (micro != 0 || hasWhole) || !hasWhole && whole != 0 {
				t.Fatalf("%d by %+v: %d, %v, %d, %v, %d, %v", q, x, left, hasLeft, micro, hasMicro, whole, hasWhole)
			}
			again, ok := tiers.Charge(x, q)
			if again != whole || ok != hasWhole || !slices.Equal(slices.Collect(tiers.Steps(x, q)), slices.Collect(tiers.Steps(x, q))) {
				t.Fatalf("%d by %+v, asked again: %d, %v, not %d, %v", q, x, again, ok, whole, hasWhole)
			}
		}
	}
	for _, mode := range []int{math.MinInt, -1, 4, math.MaxInt} {
		x := flat(1000000)
		x.Mode = mode
		if n, ok := tiers.Charge(x, 3); n != 0 || ok {
			t.Errorf("Charge by mode %d: %d, %v", mode, n, ok)
		}
	}
	for _, block := range []int{math.MinInt, -1, 0} {
		x := flat(1000000)
		x.Block = block
		if n, ok := tiers.Quantity(x, 3); n != 0 || ok {
			t.Errorf("Quantity by a block of %d: %d, %v", block, n, ok)
		}
	}
	x := flat(1)
	x.Allowance = -5
	if n, ok := tiers.Quantity(x, math.MaxInt-4); n != 0 || ok {
		t.Errorf("Quantity by an allowance of -5, beyond 64 bits: %d, %v", n, ok)
	}
}
