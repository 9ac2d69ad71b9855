package price_test

import (
	"fmt"
	"math"
	"math/rand"
	"slices"
	"strings"
	"sync"
	"testing"

	"poundage/api"
	"poundage/check"
	"poundage/core"
	"poundage/parse"
	"poundage/price"
)

// unit: one tier of a rate, told in whole amounts.
func unit(rate int) []api.Tier { return []api.Tier{{Rate: rate * api.Micro}} }

// beyond: adjustments by which no amount stays within 64 bits.
func beyond() []api.Adjust {
	return []api.Adjust{{Kind: api.Minimum, N: api.MaxAmount}, {Kind: api.Percent, N: api.MaxPercent}, {Kind: api.Percent, N: api.MaxPercent}, {Kind: api.Percent, N: api.MaxPercent}}
}

// greatest: adjustments by which every amount up to 9223372036 becomes 9223372036854775000, to which 807 are lacking to the end of 64 bits.
func greatest() []api.Adjust {
	return []api.Adjust{
		{Kind: api.Minimum, N: 9223372036}, {Kind: api.Percent, N: api.MaxPercent},
		{Kind: api.Add, N: 854}, {Kind: api.Percent, N: api.MaxPercent},
		{Kind: api.Add, N: 775}, {Kind: api.Percent, N: api.MaxPercent},
	}
}

// two: a core of the first ten days, with two meters, a sum, and a part of each meter.
func two() api.Core {
	return api.Core{
		Currency: "EUR", To: 9,
		Meters: []api.Meter{{Name: "a", Unit: "l", Max: 10}, {Name: "b", Unit: "m", Max: 2000}},
		Sums:   []api.Sum{{Amount: 5, To: 9}},
		Parts:  []api.Part{{Meter: 1, To: 9, Block: 1, Kind: api.Graduated, Tiers: unit(1)}, {To: 9, Block: 1, Kind: api.Graduated, Tiers: unit(100)}},
	}
}

// P13.1: the document's example.
func TestExample(t *testing.T) {
	c := read(t, "plan p currency EUR; horizon 2024-01-01 2024-12-31; meter m unit l max 10; fee 5; charge m { graduated { rest rate 2; } round floor; }")
	for q, want := range []int{5, 7, 9, 11, 13} {
		if n, e := price.Price(c, c.From, q); n != want || e != api.OK {
			t.Errorf("%d: %d, %d, not %d", q, n, e, want)
		}
		if n, ok := price.Part(c.Parts[0], q); n != want-5 || !ok {
			t.Errorf("%d by the part: %d, %v, not %d", q, n, ok, want-5)
		}
	}
}

// P13.1: Part: the tiers first, then the adjustments, in their order, also of nothing.
func TestPart(t *testing.T) {
	x := api.Part{Allowance: 5, Block: 4, Kind: api.Graduated, Tiers: []api.Tier{{Upto: 8, Rate: 2500000}, {Rate: 1300000}}, Mode: api.HalfUp}
	volume := x
	volume.Kind = api.Volume
	percent := func(n, mode int) api.Adjust { return api.Adjust{Kind: api.Percent, N: n, Mode: mode} }
	least, most, more := api.Adjust{Kind: api.Minimum, N: 12}, api.Adjust{Kind: api.Cap, N: 21}, api.Adjust{Kind: api.Add, N: 3}
	// What 0, 5, 6, 9, 10, 13, 14 and 60 cost: 0, 0, 4, 4, 8, 8, 12 and 56 are left.
	for _, c := range []struct {
		x       api.Part
		adjusts []api.Adjust
		want    []int
	}{
		{x, nil, []int{0, 0, 10, 10, 20, 20, 25, 82}},
		{volume, nil, []int{0, 0, 10, 10, 20, 20, 16, 73}},
		{x, []api.Adjust{percent(50000, api.Floor)}, []int{0, 0, 5, 5, 10, 10, 12, 41}},
		{x, []api.Adjust{percent(50000, api.Ceil)}, []int{0, 0, 5, 5, 10, 10, 13, 41}},
		{x, []api.Adjust{least, most}, []int{12, 12, 12, 12, 20, 20, 21, 21}},
		{x, []api.Adjust{most, more}, []int{3, 3, 13, 13, 23, 23, 24, 24}},
		{x, []api.Adjust{more, most}, []int{3, 3, 13, 13, 21, 21, 21, 21}},
		{x, []api.Adjust{more, percent(150000, api.HalfUp)}, []int{5, 5, 20, 20, 35, 35, 42, 128}},
		{x, []api.Adjust{percent(150000, api.HalfUp), more}, []int{3, 3, 18, 18, 33, 33, 41, 126}},
		{volume, []api.Adjust{more, more, more, most, least}, []int{12, 12, 19, 19, 21, 21, 21, 21}},
		{x, []api.Adjust{percent(0, api.Ceil)}, []int{0, 0, 0, 0, 0, 0, 0, 0}},
	} {
		c.x.Adjusts = c.adjusts
		for i, q := range []int{0, 5, 6, 9, 10, 13, 14, 60} {
			if n, ok := price.Part(c.x, q); n != c.want[i] || !ok {
				t.Errorf("%d by %+v: %d, %v, not %d", q, c.x, n, ok, c.want[i])
			}
			holdPart(t, c.x, q)
		}
	}
}

// P13.1: Part has no answer below 0, nor beyond 64 bits by its tiers or its adjustments, whatever stands behind.
func TestPartWithout(t *testing.T) {
	none := func(x api.Part, q int) {
		t.Helper()
		if n, ok := price.Part(x, q); n != 0 || ok {
			t.Errorf("%d by %+v: %d, %v", q, x, n, ok)
		}
	}
	dear := api.Part{Block: 1, Kind: api.Graduated, Tiers: unit(1000000)}
	blocks := api.Part{Block: 1000, Kind: api.Volume, Tiers: unit(0)}
	for _, back := range [][]api.Adjust{nil, {{Kind: api.Cap, N: 3}}, {{Kind: api.Minimum, N: 3}}, {{Kind: api.Add, N: 3}}, {{Kind: api.Percent}}} {
		dear.Adjusts, blocks.Adjusts = back, back
		for _, q := range []int{math.MinInt, -1000, -1} {
			none(dear, q)
			none(blocks, q)
		}
		// 9223372 times 10^12 millionths are within 64 bits.
		for _, q := range []int{9223373, 1 << 32, 1 << 52, math.MaxInt} {
			none(dear, q)
		}
		for _, q := range []int{9223372036854775001, math.MaxInt} {
			none(blocks, q)
		}
		if !holdPart(t, dear, 9223372) || !holdPart(t, blocks, 9223372036854775000) {
			t.Errorf("no answer by %+v", back)
		}
		x := dear
		x.Adjusts = append(beyond(), back...)
		for _, q := range []int{0, 1, 9223372} {
			none(x, q)
		}
	}
	end := dear
	end.Adjusts = greatest()
	if n, ok := price.Part(end, 0); n != 9223372036854775000 || !ok {
		t.Errorf("%d, %v", n, ok)
	}
	end.Adjusts = append(greatest(), api.Adjust{Kind: api.Add, N: 807})
	if n, ok := price.Part(end, 0); n != math.MaxInt || !ok {
		t.Errorf("%d, %v", n, ok)
	}
	end.Adjusts[6].N++
	none(end, 0)
}

// P13.1: Part of parts made at random, of any quantities, held against the second telling; the meter and the days play no part.
func TestPartAtRandom(t *testing.T) {
	r := rand.New(rand.NewSource(13))
	c := api.Core{To: 9, Meters: []api.Meter{{Name: "m", Max: api.MaxQuantity}}}
	found := map[bool]int{}
	for i := range 10000 {
		x := randomPart(r, c, i%2 == 0)
		c.Parts = []api.Part{x}
		for _, q := range append([]int{quantity(r, c, 0), quantity(r, c, 0), r.Intn(2001), r.Intn(1 << 40), int(r.Uint64()) >> r.Intn(64)}, pick(r, far...)) {
			found[holdPart(t, x, q)]++
			want, has := price.Part(x, q)
			x.Meter, x.From, x.To = pick(r, far...), pick(r, far...), pick(r, far...)
			if n, ok := price.Part(x, q); n != want || ok != has {
				t.Fatalf("%d by %+v: %d, %v, not %d, %v", q, x, n, ok, want, has)
			}
		}
	}
	if found[true] < 20000 || found[false] < 10000 {
		t.Errorf("%v", found)
	}
}

// P13.1: Part of parts that can't be ends, and answers alike; what has no answer has none besides.
func TestWrongParts(t *testing.T) {
	for _, x := range []api.Part{
		{}, {Block: 1}, {Block: -1, Tiers: unit(1)}, {Block: math.MinInt, Allowance: math.MinInt, Tiers: unit(1)}, {Block: 1, Kind: -1, Mode: 9, Tiers: unit(1)},
		{Block: 1, Tiers: []api.Tier{{Upto: 9, Rate: -5}, {Upto: 3, Rate: math.MaxInt}}}, {Block: 1, Tiers: unit(1), Adjusts: []api.Adjust{{}}}, {Block: 1, Tiers: unit(1), Adjusts: []api.Adjust{{Kind: api.Percent, N: math.MinInt, Mode: -1}}},
	} {
		for _, q := range append(far, 0, 1, 2000) {
			n, ok := price.Part(x, q)
			again, same := price.Part(x, q)
			if again != n || same != ok || !ok && n != 0 {
				t.Errorf("%d by %+v: %d, %v, then %d, %v", q, x, n, ok, again, same)
			}
		}
	}
}

// P13.1: sums and parts hold on their days, both ends with them, each day by itself.
func TestDays(t *testing.T) {
	c := read(t, "plan p currency EUR; horizon 2024-02-27 2024-03-05; meter m unit l max 10;\n"+
		"fee 1; fee 20 from 2024-02-29 to 2024-03-01; fee 300 from 2024-03-05 to 2024-03-05; fee 4000 from 2024-02-27 to 2024-03-05;\n"+
		"charge m from 2024-02-27 to 2024-02-28 { graduated { rest rate 10000; } round floor; }\n"+
		"charge m from 2024-02-29 to 2024-02-29 { graduated { rest rate 100000; } round floor; }\n"+
		"charge m from 2024-02-28 to 2024-03-04 { graduated { rest rate 1000000; } round floor; add 10000000; }")
	for q := range 10 {
		of := func(rest, first, leap, wide, more int) int {
			return rest + q*(10000*first+100000*leap+1000000*wide) + 10000000*more
		}
		for i, want := range []int{
			of(4001, 1, 0, 0, 0), of(4001, 1, 0, 1, 1), of(4021, 0, 1, 1, 1), of(4021, 0, 0, 1, 1),
			of(4001, 0, 0, 1, 1), of(4001, 0, 0, 1, 1), of(4001, 0, 0, 1, 1), of(4301, 0, 0, 0, 0),
		} {
			if n, e := price.Price(c, c.From+i, q); n != want || e != api.OK {
				t.Errorf("%d on day %d: %d, %d, not %d", q, i, n, e, want)
			}
			hold(t, c, c.From+i, q)
		}
	}
}

// P13.1: a day that isn't of the horizon is ErrRange, at the calendar's ends, too.
func TestOtherDays(t *testing.T) {
	for _, c := range []api.Core{two(), {From: 3652058, To: 3652058}, {From: 3648059, To: 3652058}, {}, {From: 738885, To: 739250, Sums: []api.Sum{{Amount: 1, From: 738885, To: 739250}}}} {
		basket := make([]int, len(c.Meters))
		for _, day := range append(far, c.From-1, c.To+1, c.From-4000, c.To+4000, c.From-1<<32, c.To+1<<32) {
			if day >= c.From && day <= c.To {
				continue
			}
			if n, e := price.Price(c, day, basket...); n != 0 || e != api.ErrRange {
				t.Errorf("day %d of %d to %d: %d, %d", day, c.From, c.To, n, e)
			}
		}
		for _, day := range []int{c.From, c.To, (c.From + c.To) / 2} {
			if hold(t, c, day, basket...) != api.OK {
				t.Errorf("day %d of %d to %d: no answer", day, c.From, c.To)
			}
		}
	}
}

// P13.1: each quantity is that of the meter at its place, by the meters' names; a meter without a part, and parts of one meter.
func TestMeters(t *testing.T) {
	c := read(t, "plan p currency EUR; horizon 2024-01-01 2024-01-01; meter z unit l max 9; meter B unit l max 9; meter a unit l max 9; meter _ unit l max 9;\n"+
		"charge z { graduated { rest rate 1; } round floor; } charge B { graduated { rest rate 10; } round floor; } charge a { graduated { rest rate 100; } round floor; } charge z { graduated { rest rate 1000; } round floor; }")
	// B, _, a, z.
	for _, row := range []struct{ b, none, a, z, want int }{
		{0, 0, 0, 0, 0}, {1, 0, 0, 0, 10}, {0, 9, 0, 0, 0}, {0, 0, 1, 0, 100}, {0, 0, 0, 1, 1001}, {2, 3, 4, 5, 5425}, {9, 9, 9, 9, 9999}, {5, 4, 3, 2, 2352},
	} {
		if n, e := price.Price(c, c.From, row.b, row.none, row.a, row.z); n != row.want || e != api.OK {
			t.Errorf("%+v: %d, %d", row, n, e)
		}
	}
	for n := range 10000 {
		hold(t, c, c.From, n%10, n/10%10, n/100%10, n/1000)
	}
}

// P13.1: a basket has as many quantities as there are meters, each from 0 to its own Max; else it is ErrRange.
func TestBaskets(t *testing.T) {
	c := two()
	for _, list := range [][]int{
		nil, {}, {1}, {1, 1, 1}, {1, 1, 0}, {0}, {0, 0, 0, 0}, make([]int, 100000),
		{-1, 0}, {0, -1}, {-1, -1}, {11, 0}, {0, 2001}, {11, 2001}, {2000, 10}, {10, 1 << 32}, {1 << 32, 10}, {-1 << 32, 0},
		{math.MinInt, 0}, {0, math.MinInt}, {math.MaxInt, 0}, {0, math.MaxInt},
	} {
		if n, e := price.Price(c, 3, list...); n != 0 || e != api.ErrRange {
			t.Errorf("%v: %d, %d", list[:min(len(list), 9)], n, e)
		}
	}
	for _, row := range [][3]int{{0, 0, 5}, {10, 0, 1005}, {0, 2000, 2005}, {10, 2000, 3005}, {1, 1, 106}} {
		if n, e := price.Price(c, 3, row[0], row[1]); n != row[2] || e != api.OK {
			t.Errorf("%v: %d, %d", row, n, e)
		}
	}
	// A meter of which there is nothing to have.
	c.Meters[0].Max = 0
	if n, e := price.Price(c, 3, 0, 7); n != 12 || e != api.OK {
		t.Errorf("%d, %d", n, e)
	}
	if n, e := price.Price(c, 3, 1, 7); n != 0 || e != api.ErrRange {
		t.Errorf("%d, %d", n, e)
	}
	// Without meters there is the empty basket alone.
	c.Meters, c.Parts = nil, nil
	for _, list := range [][]int{nil, {}, {0}, {0, 0}} {
		hold(t, c, 3, list...)
	}
	if n, e := price.Price(c, 3); n != 5 || e != api.OK {
		t.Errorf("%d, %d", n, e)
	}
	if n, e := price.Price(c, 3, 0); n != 0 || e != api.ErrRange {
		t.Errorf("%d, %d", n, e)
	}
}

// P13.1: a core that can't be is ErrArg, whatever the day and the basket are, and what is wrong with it on that day or not.
func TestWrongCores(t *testing.T) {
	for name, turn := range map[string]func(c *api.Core){
		"a horizon without days":       func(c *api.Core) { c.To = -1 },
		"a day ahead of the calendar":  func(c *api.Core) { c.From = -1 },
		"too many days":                func(c *api.Core) { c.To = api.MaxDays },
		"meters turned round":          func(c *api.Core) { c.Meters[0].Name = "c" },
		"a fifth meter":                func(c *api.Core) { c.Meters = make([]api.Meter, 5) },
		"a Max too great":              func(c *api.Core) { c.Meters[1].Max++ },
		"a Max below 0":                func(c *api.Core) { c.Meters[1].Max = -1 },
		"a place":                      func(c *api.Core) { c.Meters[1].Col = 1 },
		"an amount below 0":            func(c *api.Core) { c.Sums[0].Amount = -1 },
		"an amount too great":          func(c *api.Core) { c.Sums[0].Amount = math.MaxInt },
		"a sum beyond the horizon":     func(c *api.Core) { c.Sums[0].To++ },
		"a ninth sum":                  func(c *api.Core) { c.Sums = slices.Repeat(c.Sums, 9) },
		"a ninth part":                 func(c *api.Core) { c.Parts = slices.Repeat(c.Parts[:1], 9) },
		"a part without a meter":       func(c *api.Core) { c.Parts[1].Meter = 2 },
		"a part of a meter below":      func(c *api.Core) { c.Parts[1].Meter = -1 },
		"no meters":                    func(c *api.Core) { c.Meters = nil },
		"a block of 0":                 func(c *api.Core) { c.Parts[0].Block = 0 },
		"a kind that isn't":            func(c *api.Core) { c.Parts[0].Kind = 3 },
		"a mode that isn't":            func(c *api.Core) { c.Parts[1].Mode = 4 },
		"no tiers":                     func(c *api.Core) { c.Parts[1].Tiers = nil },
		"an allowance below 0":         func(c *api.Core) { c.Parts[0].Allowance = -1 },
		"an adjustment that isn't":     func(c *api.Core) { c.Parts[0].Adjusts = make([]api.Adjust, 1) },
		"a percentage too great":       func(c *api.Core) { c.Parts[0].Adjusts = []api.Adjust{{Kind: api.Percent, N: api.MaxPercent + 1}} },
		"seven adjustments":            func(c *api.Core) { c.Parts[0].Adjusts = slices.Repeat([]api.Adjust{{Kind: api.Cap}}, 7) },
		"a part turned round":          func(c *api.Core) { c.Parts[1].From, c.Parts[1].To = 5, 4 },
		"wrong, and beyond 64 bits":    func(c *api.Core) { c.Parts[0].Adjusts, c.Parts[1].Block = beyond(), 0 },
		"wrong, and a part at no time": func(c *api.Core) { c.Parts[0].From, c.Parts[0].Block = 9, 0 },
	} {
		c := two()
		turn(&c)
		for _, day := range append(far, 0, 3, 9, 10) {
			for _, list := range [][]int{{1, 1}, {0, 0}, {1, 2001}, {-1, 0}, {1}, nil, {0, 0, 0, 0, 0}, {math.MaxInt, math.MinInt}} {
				if n, e := price.Price(c, day, list...); n != 0 || e != api.ErrArg {
					t.Errorf("%s, %v on day %d: %d, %d", name, list, day, n, e)
				}
			}
		}
	}
}

// P13.1: amounts and sums on the way about the end of 64 bits.
func TestBeyond(t *testing.T) {
	for _, row := range []struct {
		name   string
		turn   func(c *api.Core)
		basket [2]int
		want   int
		e      api.Errno
	}{
		{"an amount within", func(c *api.Core) { c.Parts[0].Adjusts = greatest() }, [2]int{0, 0}, 9223372036854775005, api.OK},
		{"up to the end, by a sum", func(c *api.Core) { c.Parts[0].Adjusts, c.Sums[0].Amount = greatest(), 807 }, [2]int{0, 0}, math.MaxInt, api.OK},
		{"beyond, by a sum", func(c *api.Core) { c.Parts[0].Adjusts, c.Sums[0].Amount = greatest(), 808 }, [2]int{0, 0}, 0, api.ErrOver},
		{"up to the end, by sums", func(c *api.Core) {
			c.Parts[0].Adjusts, c.Sums = greatest(), append(slices.Repeat(c.Sums, 7), api.Sum{Amount: 772, To: 9})
		}, [2]int{0, 0}, math.MaxInt, api.OK},
		{"beyond, by sums", func(c *api.Core) {
			c.Parts[0].Adjusts, c.Sums = greatest(), append(slices.Repeat(c.Sums, 7), api.Sum{Amount: 773, To: 9})
		}, [2]int{0, 0}, 0, api.ErrOver},
		{"up to the end, by the part behind", func(c *api.Core) { c.Parts[0].Adjusts, c.Sums[0].Amount = greatest(), 7 }, [2]int{8, 0}, math.MaxInt, api.OK},
		{"beyond, by the part behind", func(c *api.Core) { c.Parts[0].Adjusts, c.Sums[0].Amount = greatest(), 8 }, [2]int{8, 0}, 0, api.ErrOver},
		{"up to the end, by the part ahead", func(c *api.Core) { c.Parts[1].Adjusts, c.Sums[0].Amount = greatest(), 7 }, [2]int{0, 800}, math.MaxInt, api.OK},
		{"beyond, by the part ahead", func(c *api.Core) { c.Parts[1].Adjusts, c.Sums[0].Amount = greatest(), 7 }, [2]int{0, 801}, 0, api.ErrOver},
		{"twice the greatest", func(c *api.Core) { c.Parts[0].Adjusts, c.Parts[1].Adjusts = greatest(), greatest() }, [2]int{0, 0}, 0, api.ErrOver},
		{"an amount beyond", func(c *api.Core) { c.Parts[0].Adjusts = beyond() }, [2]int{0, 0}, 0, api.ErrOver},
		{"an amount beyond, then capped", func(c *api.Core) { c.Parts[0].Adjusts = append(beyond(), api.Adjust{Kind: api.Cap}) }, [2]int{3, 3}, 0, api.ErrOver},
		{"the last amount beyond", func(c *api.Core) { c.Parts[1].Adjusts = beyond() }, [2]int{0, 0}, 0, api.ErrOver},
		{"an amount beyond, and no basket", func(c *api.Core) { c.Parts[1].Adjusts = beyond() }, [2]int{0, 2001}, 0, api.ErrRange},
	} {
		c := two()
		row.turn(&c)
		for day := range 10 {
			if n, e := price.Price(c, day, row.basket[0], row.basket[1]); n != row.want || e != row.e {
				t.Errorf("%s: %d, %d, not %d, %d", row.name, n, e, row.want, row.e)
			}
			hold(t, c, day, row.basket[0], row.basket[1])
		}
		for _, day := range []int{-1, 10} {
			if n, e := price.Price(c, day, row.basket[0], row.basket[1]); n != 0 || e != api.ErrRange {
				t.Errorf("%s, on no day: %d, %d", row.name, n, e)
			}
		}
	}
}

// P13.1: eight times as much as is within 64 bits doesn't go round to a number again; a part beyond them counts on its days alone.
func TestBeyondOnItsDays(t *testing.T) {
	c := two()
	c.Parts = slices.Repeat(c.Parts[:1], 8)
	for i := range c.Parts {
		c.Parts[i].Adjusts, c.Parts[i].From = greatest(), i
	}
	for day := range 10 {
		want, wrong := 9223372036854775005, api.OK
		if day > 0 {
			want, wrong = 0, api.ErrOver
		}
		if n, e := price.Price(c, day, 0, 0); n != want || e != wrong {
			t.Errorf("day %d: %d, %d, not %d, %d", day, n, e, want, wrong)
		}
	}
	c = two()
	c.Parts = append(c.Parts, api.Part{From: 4, To: 6, Block: 1, Kind: api.Volume, Tiers: unit(1), Adjusts: beyond()})
	for day := range 10 {
		want, wrong := 208, api.OK
		if day >= 4 && day <= 6 {
			want, wrong = 0, api.ErrOver
		}
		if n, e := price.Price(c, day, 2, 3); n != want || e != wrong {
			t.Errorf("day %d: %d, %d, not %d, %d", day, n, e, want, wrong)
		}
	}
}

// P13.1: cores made at random, on days about all ends, of baskets about all ends and such as are none, held against the second telling.
func TestAtRandom(t *testing.T) {
	r := rand.New(rand.NewSource(131))
	found := map[api.Errno]int{}
	for i := range 4000 {
		c := randomCore(r, i%2 == 0)
		for _, day := range days(r, c) {
			found[hold(t, c, day, basket(r, c)...)]++
		}
		for range 3 {
			list, day := basket(r, c), pick(r, c.From, c.To)
			switch n := r.Intn(4); {
			case n == 0:
				day = pick(r, append(far, c.From-1, c.To+1)...)
			case n == 1:
				list = append(list, pick(r, 0, 1, math.MinInt))
			case len(list) == 0:
			case n == 2:
				at := r.Intn(len(list))
				list[at] = pick(r, append(far, c.Meters[at].Max+1)...)
			default:
				list = list[1:]
			}
			found[hold(t, c, day, list...)]++
		}
	}
	if found[api.OK] < 20000 || found[api.ErrOver] < 1000 || found[api.ErrRange] < 5000 {
		t.Errorf("%v", found)
	}
}

// P13.1: ErrArg is of cores that can't be, and of no other ones: cores some numbers of which are others.
func TestSpoilt(t *testing.T) {
	r := rand.New(rand.NewSource(132))
	found := map[bool]int{}
	for range 20000 {
		c := randomCore(r, false)
		list, day := basket(r, c), pick(r, c.From, c.To)
		numbers := []*int{&c.From, &c.To}
		for i := range c.Meters {
			numbers = append(numbers, &c.Meters[i].Max)
		}
		for i := range c.Sums {
			numbers = append(numbers, &c.Sums[i].Amount, &c.Sums[i].From, &c.Sums[i].To)
		}
		for i := range c.Parts {
			x := &c.Parts[i]
			numbers = append(numbers, &x.Meter, &x.From, &x.To, &x.Allowance, &x.Block, &x.Kind, &x.Mode, &x.Tiers[r.Intn(len(x.Tiers))].Rate, &x.Tiers[0].Upto, &x.Tiers[len(x.Tiers)-1].Upto)
		}
		at := pick(r, numbers...)
		*at = pick(r, *at-1, *at+1, 0, 1, math.MinInt, math.MaxInt)
		good := core.Good(c)
		found[good]++
		if n, e := price.Price(c, day, list...); (e == api.ErrArg) == good || e != api.OK && n != 0 {
			t.Fatalf("%v on day %d by %+v: %d, %d", list, day, c, n, e)
		}
		if good {
			hold(t, c, day, list...)
		}
	}
	if found[true] < 5000 || found[false] < 5000 {
		t.Errorf("%v", found)
	}
}

// P13.2: plans whose dearest basket comes to their very bound, up to the greatest there may be; of one more there is no core.
func TestBound(t *testing.T) {
	const head = "plan p currency EUR; horizon 2024-01-01 2024-01-01; meter m unit l max 2000; meter n unit l max 10;"
	const most = "charge n { graduated { rest rate 0; } round floor; minimum 1152921504; percent 100000 floor; add 606; percent 100000 floor; add 846; percent 100000 floor; }"
	for s, want := range map[string]int{
		"":                                      0,
		"fee 0;":                                0,
		strings.Repeat("fee 1000000000000;", 8): 8000000000000,
		"fee 5; charge n { graduated { rest rate 2; } round floor; }":                                                                     25,
		"charge m { allowance 1990; block 4; volume { rest rate 0.1; } round ceil; } charge n { volume { rest rate 1; } round halfup; }":  12,
		"charge m { volume { rest rate 1; } round ceil; percent 33.333 ceil; cap 600; add 7; minimum 608; } fee 1;":                       609,
		"charge m { block 1000000; graduated { rest rate 1000000; } round floor; percent 100000 floor; percent 115.292 floor; } fee 150;": 1152920000000150,
		most + "fee 975;": 1<<60 - 1,
		most + "charge m { volume { rest rate 0.4875; } round halfeven; }": 1<<60 - 1,
	} {
		p, fault := parse.Parse(head + s)
		bound, ok := check.Bound(p)
		if fault != (api.Fault{}) || !ok || bound != want {
			t.Errorf("%s: %v, a bound of %d, %v, not %d", s, fault, bound, ok, want)
		}
		c := read(t, head+s)
		if n, e := price.Price(c, c.From, 2000, 10); n != want || e != api.OK {
			t.Errorf("%s: %d, %d, not %d", s, n, e, want)
		}
		if n, e := price.Price(c, c.From, 0, 0); n < 0 || n > want || e != api.OK {
			t.Errorf("%s: %d, %d, by a bound of %d", s, n, e, want)
		}
	}
	if c, fault := core.Read(head + most + "fee 976;"); fault.Err != api.ErrLimit {
		t.Errorf("%+v, %v", c, fault)
	}
}

// P13.2: of cores made of plans at random there is always an answer, from 0 to the plan's bound.
func TestWithinTheBound(t *testing.T) {
	r := rand.New(rand.NewSource(133))
	plans, great, attained := 0, 0, 0
	for i := range 6000 {
		p := planOf(r, randomCore(r, i%3 == 0))
		c, fault := core.Make(p)
		if fault != (api.Fault{}) {
			continue
		}
		bound, ok := check.Bound(p)
		if !ok {
			t.Fatalf("no bound: %+v", p)
		}
		plans++
		if bound > api.MaxBound/1000 {
			great++
		}
		ends := make([]int, len(c.Meters))
		for k, m := range c.Meters {
			ends[k] = m.Max
		}
		for _, day := range days(r, c) {
			for _, list := range [][]int{ends, basket(r, c), make([]int, len(ends))} {
				n, e := price.Price(c, day, list...)
				if e != api.OK || n < 0 || n > bound {
					t.Fatalf("%v on day %d by %+v: %d, %d, by a bound of %d", list, day, c, n, e, bound)
				}
				if n == bound {
					attained++
				}
			}
		}
	}
	if plans < 4000 || great < 100 || attained < 300 {
		t.Errorf("%d plans, %d great ones, %d times their bound", plans, great, attained)
	}
}

// holdMeters: P13.3, of a basket that costs something: what it costs is what the empty one does, and what each quantity alone makes it more.
func holdMeters(t *testing.T, c api.Core, day int, list ...int) bool {
	t.Helper()
	got, e := price.Price(c, day, list...)
	if e != api.OK {
		return false
	}
	empty, e := price.Price(c, day, make([]int, len(list))...)
	want := empty
	for i, q := range list {
		alone := make([]int, len(list))
		alone[i] = q
		n, wrong := price.Price(c, day, alone...)
		want += n - empty
		e = max(e, wrong)
	}
	if got != want || e != api.OK {
		t.Fatalf("%v on day %d by %+v: %d, by its meters %d, %d", list, day, c, got, want, e)
	}
	return true
}

// P13.3: all baskets of two small meters, of parts that are dearer, and cheaper, for more.
func TestByMeters(t *testing.T) {
	c := read(t, "plan p currency EUR; horizon 2024-01-01 2024-01-03; meter m unit l max 24; meter k unit l max 17; fee 4;\n"+
		"charge m { allowance 3; block 2; volume { upto 6 rate 1.7; rest rate 0.9; } round halfeven; add 2; minimum 5; }\n"+
		"charge k from 2024-01-02 to 2024-01-03 { graduated { upto 5 rate 2.5; rest rate 0.3; } round halfup; percent 119 floor; cap 14; }\n"+
		"charge m from 2024-01-03 to 2024-01-03 { graduated { rest rate 1.5; } round ceil; minimum 8; }")
	for day := c.From; day <= c.To; day++ {
		for k := range 18 {
			for m := range 25 {
				if !holdMeters(t, c, day, k, m) {
					t.Fatalf("%d, %d on day %d: no answer", k, m, day)
				}
				// One more of a meter makes as much of a difference, whatever the other one's quantity is.
				if m == 24 {
					continue
				}
				with, _ := price.Price(c, day, k, m+1)
				without, _ := price.Price(c, day, k, m)
				first, _ := price.Price(c, day, 0, m+1)
				none, _ := price.Price(c, day, 0, m)
				if with-without != first-none {
					t.Fatalf("%d, %d on day %d: %d more, not %d", k, m, day, with-without, first-none)
				}
			}
		}
	}
}

// P13.3: baskets of cores made at random.
func TestByMetersAtRandom(t *testing.T) {
	r := rand.New(rand.NewSource(134))
	answers := 0
	for i := range 3000 {
		c := randomCore(r, i%3 == 0)
		for _, day := range days(r, c) {
			for range 2 {
				if holdMeters(t, c, day, basket(r, c)...) {
					answers++
				}
			}
		}
	}
	if answers < 30000 {
		t.Errorf("only %d answers", answers)
	}
}

// P13.1: what is handed in isn't changed, spare room included, and answers hang on it alone.
func TestUnchanged(t *testing.T) {
	r := rand.New(rand.NewSource(135))
	for i := range 1000 {
		c := randomCore(r, i%3 == 0)
		c.Meters = append(slices.Grow(c.Meters, 9), api.Meter{Name: "spare"})[:len(c.Meters)]
		c.Sums = append(slices.Grow(c.Sums, 9), api.Sum{Amount: 7})[:len(c.Sums)]
		c.Parts = append(slices.Grow(c.Parts, 9), api.Part{Meter: 7})[:len(c.Parts)]
		for k := range c.Parts {
			x := &c.Parts[k]
			x.Tiers = append(slices.Grow(x.Tiers, 9), api.Tier{Rate: 7})[:len(x.Tiers)]
			x.Adjusts = append(slices.Grow(x.Adjusts, 9), api.Adjust{N: 7})[:len(x.Adjusts)]
		}
		list := basket(r, c)
		room := append(slices.Clone(list), 7, 8, 9)
		before, told := all(c), fmt.Sprint(room)
		for _, day := range days(r, c) {
			n, e := price.Price(c, day, room[:len(list)]...)
			for _, x := range c.Parts {
				price.Part(x, room[x.Meter])
			}
			if again, same := price.Price(c, day, list...); again != n || same != e {
				t.Fatalf("%v on day %d by %+v: %d, %d, then %d, %d", list, day, c, n, e, again, same)
			}
		}
		if after := all(c); after != before || fmt.Sprint(room) != told {
			t.Fatalf("%s, %v, not %s, %s", after, room, before, told)
		}
	}
}

// An answer hangs on the arguments alone: neither on what was asked ahead, nor on who else asks.
func TestAtOnce(t *testing.T) {
	c, wrong, great := two(), two(), two()
	wrong.Parts[0].Block = 0
	great.Parts[0].Adjusts = beyond()
	var group sync.WaitGroup
	for range 8 {
		group.Go(func() {
			for q := range 2000 {
				n, e := price.Price(c, q%10, q%11, q)
				_, no := price.Price(wrong, q%10, q%11, q)
				_, over := price.Price(great, q%10, q%11, q)
				_, none := price.Price(c, q%10, 11, q)
				if n != 5+q%11*100+q || e != api.OK || no != api.ErrArg || over != api.ErrOver || none != api.ErrRange {
					t.Errorf("%d: %d, %d, %d, %d, %d", q, n, e, no, over, none)
					return
				}
			}
		})
	}
	group.Wait()
}
