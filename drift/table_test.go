package drift_test

import (
	"fmt"
	"math"
	"math/rand"
	"slices"
	"testing"

	"regulator/api"
	"regulator/drift"
)

// named is a table, and what is special about it.
type named struct {
	name  string
	table api.Table
}

// small returns a table whose greatest rate bounds are at no corner.
func small() api.Table {
	return api.Table{
		Temps: []int{-3, -1, 2},
		Ages:  []int{0, 1, 4, 6},
		Rates: [][]int{{50, 900, 20, 7}, {3, 41, 999, 60}, {800, 5, 12, 77}},
	}
}

// sized returns a well-formed table with so many rows and columns.
func sized(rows, columns int) api.Table {
	t := api.Table{}
	for i := range rows {
		t.Temps = append(t.Temps, 10*i-30)
		t.Rates = append(t.Rates, make([]int, columns))
		for k := range columns {
			t.Rates[i][k] = 1000*i + k
		}
	}
	for k := range columns {
		t.Ages = append(t.Ages, 7*k)
	}
	return t
}

// anyTable returns a well-formed table, with bands near 0.
func anyTable(r *rand.Rand) api.Table {
	t := sized(1+r.Intn(api.MaxBands), 1+r.Intn(api.MaxBands))
	for _, bands := range [][]int{t.Temps, t.Ages} {
		from := -5 - r.Intn(5)
		for i := range bands {
			bands[i] = from
			from += 1 + r.Intn(3)
		}
	}
	for _, row := range t.Rates {
		for k := range row {
			row[k] = anyRate(r)
		}
	}
	return t
}

// copied returns a table that shares no memory with t.
func copied(t api.Table) api.Table {
	c := api.Table{Temps: slices.Clone(t.Temps), Ages: slices.Clone(t.Ages), Rates: slices.Clone(t.Rates)}
	for i, row := range c.Rates {
		c.Rates[i] = slices.Clone(row)
	}
	return c
}

func equal(a, b api.Table) bool {
	return slices.Equal(a.Temps, b.Temps) && slices.Equal(a.Ages, b.Ages) && slices.EqualFunc(a.Rates, b.Rates, slices.Equal)
}

// sizes goes through numbers of rows and columns.
func sizes(yield func(rows, columns int) bool) {
	for _, rows := range []int{1, 2, 3, 8} {
		for _, columns := range []int{1, 2, 4, 8} {
			if !yield(rows, columns) {
				return
			}
		}
	}
}

// changes returns copies of a table, each with one change, of which none is well-formed.
func changes(t api.Table) []named {
	var all []named
	add := func(name string, change func(c *api.Table)) {
		c := copied(t)
		change(&c)
		all = append(all, named{fmt.Sprint(name, " of ", t), c})
	}
	for name, bands := range map[string]func(c *api.Table) []int{
		"temperatures": func(c *api.Table) []int { return c.Temps },
		"ages":         func(c *api.Table) []int { return c.Ages },
	} {
		for i := range bands(&t) {
			for _, x := range []int{math.MinInt, -edge - 1, edge + 1, math.MaxInt} {
				add(fmt.Sprint(name, " with ", x), func(c *api.Table) { bands(c)[i] = x })
			}
			if i > 0 {
				add(name+" with equal ones", func(c *api.Table) { bands(c)[i] = bands(c)[i-1] })
				add(name+" that fall", func(c *api.Table) { bands(c)[i], bands(c)[i-1] = bands(c)[i-1], bands(c)[i] })
			}
		}
	}
	for i := range t.Rates {
		add("a row too short", func(c *api.Table) { c.Rates[i] = c.Rates[i][1:] })
		add("a row too long", func(c *api.Table) { c.Rates[i] = append(c.Rates[i], 0) })
		add("a row of nothing", func(c *api.Table) { c.Rates[i] = nil })
		for k := range t.Rates[i] {
			for _, x := range []int{math.MinInt, -api.MaxRate, -1, api.MaxRate + 1, math.MaxInt} {
				add(fmt.Sprint("the rate bound ", x), func(c *api.Table) { c.Rates[i][k] = x })
			}
		}
	}
	add("a row too few", func(c *api.Table) { c.Rates = c.Rates[1:] })
	add("a row too many", func(c *api.Table) { c.Rates = append(c.Rates, c.Rates[0]) })
	add("no rows", func(c *api.Table) { c.Rates = nil })
	add("no temperatures", func(c *api.Table) { c.Temps = nil })
	add("no ages", func(c *api.Table) { c.Ages = nil })
	add("a temperature too many", func(c *api.Table) { c.Temps = append(c.Temps, edge) })
	add("an age too many", func(c *api.Table) { c.Ages = append(c.Ages, edge) })
	return all
}

// malformed returns tables that are not well-formed.
func malformed() []named {
	all := []named{
		{"nothing", api.Table{}},
		{"empty lists", api.Table{Temps: []int{}, Ages: []int{}, Rates: [][]int{}}},
		{"no temperatures and no rows", api.Table{Ages: []int{0}}},
		{"no ages and a row of none", api.Table{Temps: []int{0}, Rates: [][]int{{}}}},
		{"9 temperatures", sized(9, 1)},
		{"9 ages", sized(1, 9)},
		{"9 of both", sized(9, 9)},
		{"100 temperatures", sized(100, 2)},
		{"100 ages", sized(2, 100)},
		{"rows and columns exchanged", api.Table{Temps: []int{0, 1}, Ages: []int{0}, Rates: [][]int{{1, 2}}}},
	}
	all = append(all, changes(small())...)
	for rows, columns := range sizes {
		all = append(all, changes(sized(rows, columns))...)
	}
	return all
}

// P7.1: G1, and that the other functions take a table if it is well-formed.
func TestWellFormed(t *testing.T) {
	wide := sized(2, 3)
	wide.Temps[0], wide.Temps[1], wide.Ages[0], wide.Ages[2] = -edge, edge, -edge, edge
	wide.Rates[0][0], wide.Rates[1][2] = api.MaxRate, 0
	low, high, near := sized(1, 1), sized(1, 1), sized(2, 2)
	low.Temps[0], low.Ages[0] = -edge, -edge
	high.Temps[0], high.Ages[0] = edge, edge
	near.Temps, near.Ages = []int{-edge, 1 - edge}, []int{edge - 1, edge}
	all := []named{{"small", small()}, {"wide", wide}, {"low", low}, {"high", high}, {"near", near}}
	for rows, columns := range sizes {
		all = append(all, named{fmt.Sprint(rows, " rows, ", columns, " columns"), sized(rows, columns)})
	}
	for _, x := range all {
		temp, age := x.table.Temps[0], x.table.Ages[0]
		_, e := drift.Rate(x.table, temp, age)
		_, f := drift.Worst(x.table, api.Range{Lo: temp, Hi: temp}, api.Range{Lo: age, Hi: age})
		_, g := drift.Several(x.table, nil)
		if !drift.Valid(x.table) || e != api.OK || f != api.OK || g != api.OK {
			t.Errorf("%s: %v is not valid, or %d, %d, %d", x.name, x.table, e, f, g)
		}
	}
}

// P7.1 and P1: G1 for tables that are not well-formed, which for other functions are ErrArg before any other error.
func TestMalformed(t *testing.T) {
	below := api.Range{Lo: math.MinInt, Hi: math.MinInt}
	for _, x := range malformed() {
		if drift.Valid(x.table) {
			t.Errorf("%s: %v is valid", x.name, x.table)
		}
		for _, at := range []int{math.MinInt, 0, 7, math.MaxInt} {
			if rate, e := drift.Rate(x.table, at, at); rate != 0 || e != api.ErrArg {
				t.Errorf("%s: Rate is %d, %d", x.name, rate, e)
			}
		}
		for _, r := range []api.Range{below, {}, {Lo: 0, Hi: 50}, {Lo: 1, Hi: 0}} {
			if rate, e := drift.Worst(x.table, r, r); rate != 0 || e != api.ErrArg {
				t.Errorf("%s: Worst is %d, %d", x.name, rate, e)
			}
		}
		for _, l := range [][]api.Segment{nil, {{Temp: below, Age: below}}, make([]api.Segment, 65)} {
			if sum, e := drift.Several(x.table, l); sum != (api.Range{}) || e != api.ErrArg {
				t.Errorf("%s: Several is %v, %d", x.name, sum, e)
			}
		}
	}
}

// lastBand is the chapter's word: the index of the last band that is not above x, or -1.
func lastBand(bands []int, x int) int {
	band := -1
	for i, from := range bands {
		if from <= x {
			band = i
		}
	}
	return band
}

// rateOf returns what G2 says for a well-formed table.
func rateOf(t api.Table, temp, age int) (int, api.Errno) {
	row, column := lastBand(t.Temps, temp), lastBand(t.Ages, age)
	if row < 0 || column < 0 {
		return 0, api.ErrRange
	}
	return t.Rates[row][column], api.OK
}

func checkRate(t *testing.T, table api.Table, temp, age, want int, e api.Errno) {
	t.Helper()
	if rate, got := drift.Rate(table, temp, age); rate != want || got != e {
		t.Errorf("Rate(%v, %d, %d) is %d, %d, not %d, %d", table, temp, age, rate, got, want, e)
	}
}

// P7.1: G2 below the first band, at a band, between bands and above the last one.
func TestRate(t *testing.T) {
	for _, x := range []struct {
		temp, age, want int
		e               api.Errno
	}{
		{-3, 0, 50, api.OK},
		{-2, 0, 50, api.OK},
		{-1, 0, 3, api.OK},
		{1, 0, 3, api.OK},
		{2, 0, 800, api.OK},
		{3, 0, 800, api.OK},
		{math.MaxInt, 0, 800, api.OK},
		{-3, 1, 900, api.OK},
		{-3, 2, 900, api.OK},
		{-3, 3, 900, api.OK},
		{-3, 4, 20, api.OK},
		{-3, 5, 20, api.OK},
		{-3, 6, 7, api.OK},
		{-3, math.MaxInt, 7, api.OK},
		{0, 5, 999, api.OK},
		{edge + 1, edge + 1, 77, api.OK},
		{math.MaxInt, math.MaxInt, 77, api.OK},
		{-4, 0, 0, api.ErrRange},
		{-3, -1, 0, api.ErrRange},
		{-4, -1, 0, api.ErrRange},
		{100, -1, 0, api.ErrRange},
		{-4, 100, 0, api.ErrRange},
		{math.MinInt, 0, 0, api.ErrRange},
		{0, math.MinInt, 0, api.ErrRange},
	} {
		checkRate(t, small(), x.temp, x.age, x.want, x.e)
	}
}

// P7.1: G2 for tables of all sizes.
func TestRateOfAnyTable(t *testing.T) {
	r := rand.New(rand.NewSource(1))
	for range 200 {
		table := anyTable(r)
		before := copied(table)
		for temp := -12; temp < 25; temp++ {
			for age := -12; age < 25; age++ {
				want, e := rateOf(before, temp, age)
				checkRate(t, table, temp, age, want, e)
			}
		}
		if !equal(table, before) {
			t.Fatalf("%v became %v", before, table)
		}
	}
}

// greatest returns the greatest rate bound for the temperatures and ages of two ranges, all of which are tried.
func greatest(t api.Table, temp, age api.Range) (int, api.Errno) {
	found := 0
	for x := temp.Lo; x <= temp.Hi; x++ {
		for y := age.Lo; y <= age.Hi; y++ {
			rate, e := rateOf(t, x, y)
			if e != api.OK {
				return 0, e
			}
			found = max(found, rate)
		}
	}
	return found, api.OK
}

func checkWorst(t *testing.T, table api.Table, temp, age api.Range, want int, e api.Errno) {
	t.Helper()
	if rate, got := drift.Worst(table, temp, age); rate != want || got != e {
		t.Errorf("Worst(%v, %v, %v) is %d, %d, not %d, %d", table, temp, age, rate, got, want, e)
	}
}

// P7.1: G3, with its errors in their order.
func TestWorst(t *testing.T) {
	for _, x := range []struct {
		temp, age api.Range
		want      int
		e         api.Errno
	}{
		{api.Range{Lo: -3, Hi: -3}, api.Range{Lo: 0, Hi: 0}, 50, api.OK},
		{api.Range{Lo: -3, Hi: -2}, api.Range{Lo: 0, Hi: 0}, 50, api.OK},
		{api.Range{Lo: -3, Hi: -2}, api.Range{Lo: 0, Hi: 1}, 900, api.OK},
		{api.Range{Lo: -2, Hi: 1}, api.Range{Lo: 0, Hi: 0}, 50, api.OK},
		{api.Range{Lo: -1, Hi: 1}, api.Range{Lo: 0, Hi: 3}, 41, api.OK},
		{api.Range{Lo: -1, Hi: 1}, api.Range{Lo: 0, Hi: 4}, 999, api.OK},
		{api.Range{Lo: -1, Hi: 2}, api.Range{Lo: 0, Hi: 3}, 800, api.OK},
		{api.Range{Lo: 2, Hi: 100}, api.Range{Lo: 3, Hi: 100}, 77, api.OK},
		{api.Range{Lo: 2, Hi: 100}, api.Range{Lo: 3, Hi: 5}, 12, api.OK},
		{api.Range{Lo: -3, Hi: math.MaxInt}, api.Range{Lo: 0, Hi: math.MaxInt}, 999, api.OK},
		{api.Range{Lo: math.MaxInt, Hi: math.MaxInt}, api.Range{Lo: math.MaxInt, Hi: math.MaxInt}, 77, api.OK},
		{api.Range{Lo: -4, Hi: 2}, api.Range{Lo: 0, Hi: 0}, 0, api.ErrRange},
		{api.Range{Lo: 0, Hi: 0}, api.Range{Lo: -1, Hi: 0}, 0, api.ErrRange},
		{api.Range{Lo: math.MinInt, Hi: math.MaxInt}, api.Range{Lo: math.MinInt, Hi: math.MaxInt}, 0, api.ErrRange},
		{api.Range{Lo: 1, Hi: 0}, api.Range{Lo: 0, Hi: 0}, 0, api.ErrArg},
		{api.Range{Lo: 0, Hi: 0}, api.Range{Lo: 1, Hi: 0}, 0, api.ErrArg},
		{api.Range{Lo: math.MaxInt, Hi: math.MinInt}, api.Range{Lo: 0, Hi: 0}, 0, api.ErrArg},
		{api.Range{Lo: 0, Hi: 0}, api.Range{Lo: math.MaxInt, Hi: math.MinInt}, 0, api.ErrArg},
		// no band, and Lo above Hi
		{api.Range{Lo: -4, Hi: -5}, api.Range{Lo: 0, Hi: 0}, 0, api.ErrArg},
		{api.Range{Lo: -4, Hi: 0}, api.Range{Lo: 1, Hi: 0}, 0, api.ErrArg},
		{api.Range{Lo: 1, Hi: 0}, api.Range{Lo: -1, Hi: 0}, 0, api.ErrArg},
	} {
		checkWorst(t, small(), x.temp, x.age, x.want, x.e)
	}
}

// P7.5: no temperature and age of the ranges has a greater rate bound than Worst, and some have this one: all ranges near a table.
func TestWorstOfAllRanges(t *testing.T) {
	for temp := range ranges(-5, 5) {
		for age := range ranges(-2, 8) {
			want, e := greatest(small(), temp, age)
			checkWorst(t, small(), temp, age, want, e)
		}
	}
}

// ranges goes through all ranges from low to before high.
func ranges(low, high int) func(yield func(api.Range) bool) {
	return func(yield func(api.Range) bool) {
		for lo := low; lo < high; lo++ {
			for hi := lo; hi < high; hi++ {
				if !yield(api.Range{Lo: lo, Hi: hi}) {
					return
				}
			}
		}
	}
}

// anyRange returns a range near 0.
func anyRange(r *rand.Rand) api.Range {
	a, b := r.Intn(35)-11, r.Intn(35)-11
	return api.Range{Lo: min(a, b), Hi: max(a, b)}
}

// anyWithin returns a range with some of the integers of another one.
func anyWithin(r *rand.Rand, other api.Range) api.Range {
	lo := other.Lo + r.Intn(other.Hi-other.Lo+1)
	return api.Range{Lo: lo, Hi: lo + r.Intn(other.Hi-lo+1)}
}

// P7.5: Worst for tables of all sizes, and that narrower ranges have no greater one.
func TestWorstOfAnyTable(t *testing.T) {
	r := rand.New(rand.NewSource(5))
	narrower := 0
	for range 300 {
		table := anyTable(r)
		before := copied(table)
		for range 30 {
			temp, age := anyRange(r), anyRange(r)
			want, e := greatest(before, temp, age)
			checkWorst(t, table, temp, age, want, e)
			if e != api.OK {
				continue
			}
			rate, f := drift.Worst(table, anyWithin(r, temp), anyWithin(r, age))
			if rate > want || f != api.OK {
				t.Errorf("narrower than %v, %v: %d, %d, not up to %d", temp, age, rate, f, want)
			}
			if rate < want {
				narrower++
			}
		}
		if !equal(table, before) {
			t.Fatalf("%v became %v", before, table)
		}
	}
	if narrower < 1000 {
		t.Error("only", narrower, "narrower ranges with a lesser rate bound")
	}
}
