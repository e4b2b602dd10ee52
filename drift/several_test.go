package drift_test

import (
	"math"
	"math/rand"
	"slices"
	"testing"

	"regulator/api"
	"regulator/drift"
)

// fixed returns a table with one rate bound from -1000000 on.
func fixed(rate int) api.Table {
	return api.Table{Temps: []int{-edge}, Ages: []int{-edge}, Rates: [][]int{{rate}}}
}

// counted returns segments at the temperature 0 and the age 0, with such counts.
func counted(counts ...int) []api.Segment {
	var l []api.Segment
	for _, count := range counts {
		l = append(l, api.Segment{Count: count})
	}
	return l
}

// anySegment returns a well-formed segment, for which a table near 0 may have no band.
func anySegment(r *rand.Rand) api.Segment {
	return api.Segment{Count: anyStretch(r) >> 5, Temp: anyRange(r), Age: anyRange(r)}
}

// raised returns a range whose ends are at least low.
func raised(r api.Range, low int) api.Range {
	return api.Range{Lo: max(r.Lo, low), Hi: max(r.Hi, low)}
}

func checkSeveral(t *testing.T, name string, table api.Table, l []api.Segment, want api.Range, e api.Errno) {
	t.Helper()
	before := slices.Clone(l)
	if sum, got := drift.Several(table, l); sum != want || got != e {
		t.Errorf("%s: Several(%v, %v) is %v, %d, not %v, %d", name, table, l, sum, got, want, e)
	}
	if !slices.Equal(l, before) {
		t.Errorf("%s: %v became %v", name, before, l)
	}
}

// P7.1: G6 for sums that are worked out, those that are exactly MaxTime and more among them.
func TestSums(t *testing.T) {
	const most = api.MaxTime
	for _, x := range []struct {
		name  string
		rate  int
		count []int
		want  api.Range
		e     api.Errno
	}{
		{"none", 50000, nil, api.Range{}, api.OK},
		{"none, empty", 50000, []int{}, api.Range{}, api.OK},
		{"one", 50000, []int{1000000}, api.Range{Lo: 999950, Hi: 1000051}, api.OK},
		{"two", 50000, []int{1000000, 1000000}, api.Range{Lo: 1999900, Hi: 2000102}, api.OK},
		{"of 0", 1000000, []int{0, 0, 0}, api.Range{Lo: 0, Hi: 3}, api.OK},
		{"exact", 0, []int{7, 0, 5}, api.Range{Lo: 12, Hi: 12}, api.OK},
		{"64", 1000000, make([]int, 64), api.Range{Lo: 0, Hi: 64}, api.OK},
		{"one as long as can be", 1000000, []int{stretch}, api.Range{Lo: 999000999000999, Hi: 1001001001001002}, api.OK},
		{"exactly MaxTime", 0, []int{stretch, stretch, stretch}, api.Range{Lo: most, Hi: most}, api.OK},
		{"exactly MaxTime, and 0", 0, []int{stretch, 0, stretch, stretch}, api.Range{Lo: most, Hi: most}, api.OK},
		{"one more", 0, []int{stretch, stretch, stretch, 1}, api.Range{}, api.ErrRange},
		{"one more, first", 0, []int{1, stretch, stretch, stretch}, api.Range{}, api.ErrRange},
		{"far more", 1000000, slices.Repeat([]int{stretch}, 64), api.Range{}, api.ErrRange},
		// only the greatest true times exceed MaxTime
		{"greatest ones at MaxTime", 1000000, []int{999000000000000, 999000000000000, 998999999999998}, api.Range{Lo: 2994005994005992, Hi: most}, api.OK},
		{"greatest ones one more", 1000000, []int{999000000000000, 999000000000000, 998999999999999}, api.Range{}, api.ErrRange},
		{"greatest ones one more, by 0", 1000000, []int{999000000000000, 999000000000000, 998999999999998, 0}, api.Range{}, api.ErrRange},
	} {
		checkSeveral(t, x.name, fixed(x.rate), counted(x.count...), x.want, x.e)
	}
}

// P7.1: G6 for segments that are not well-formed, and those without a band.
func TestSegments(t *testing.T) {
	table := small()
	for _, x := range []struct {
		name string
		s    api.Segment
		e    api.Errno
	}{
		{"count -1", api.Segment{Count: -1}, api.ErrArg},
		{"count too great", api.Segment{Count: stretch + 1}, api.ErrArg},
		{"least count", api.Segment{Count: math.MinInt}, api.ErrArg},
		{"greatest count", api.Segment{Count: math.MaxInt}, api.ErrArg},
		{"temperatures", api.Segment{Temp: api.Range{Lo: 1, Hi: 0}}, api.ErrArg},
		{"ages", api.Segment{Age: api.Range{Lo: 1, Hi: 0}}, api.ErrArg},
		{"temperatures without a band", api.Segment{Temp: api.Range{Lo: -4, Hi: 5}}, api.ErrRange},
		{"ages without a band", api.Segment{Age: api.Range{Lo: -1, Hi: 5}}, api.ErrRange},
		{"count -1, without a band", api.Segment{Count: -1, Temp: api.Range{Lo: -4, Hi: 5}}, api.ErrArg},
		{"temperatures, ages without a band", api.Segment{Temp: api.Range{Lo: 1, Hi: 0}, Age: api.Range{Lo: -1, Hi: 5}}, api.ErrArg},
		{"ages, temperatures without a band", api.Segment{Temp: api.Range{Lo: -4, Hi: 5}, Age: api.Range{Lo: 1, Hi: 0}}, api.ErrArg},
	} {
		good := api.Segment{Count: 5}
		last := append(slices.Repeat([]api.Segment{good}, 63), x.s)
		for _, l := range [][]api.Segment{{x.s}, {good, x.s}, {x.s, good}, last} {
			checkSeveral(t, x.name, table, l, api.Range{}, x.e)
		}
	}
}

// P7.1 and P1: the errors of G6 in their order (those of a table come first: see TestMalformed).
func TestSegmentErrors(t *testing.T) {
	bad, cold := api.Segment{Count: -1}, api.Segment{Temp: api.Range{Lo: -4, Hi: -4}}
	long := counted(stretch, stretch, stretch, stretch)
	for _, x := range []struct {
		name string
		l    []api.Segment
		e    api.Errno
	}{
		{"65", make([]api.Segment, 65), api.ErrLimit},
		{"1000", make([]api.Segment, 1000), api.ErrLimit},
		{"65, not well-formed", slices.Repeat([]api.Segment{bad}, 65), api.ErrLimit},
		{"65, without a band", slices.Repeat([]api.Segment{cold}, 65), api.ErrLimit},
		{"65, too long", slices.Repeat(long, 17), api.ErrLimit},
		{"not well-formed, without a band", []api.Segment{bad, cold}, api.ErrArg},
		{"without a band, not well-formed", []api.Segment{cold, bad}, api.ErrRange},
		{"too long", long, api.ErrRange},
		{"too long, not well-formed", append(slices.Clone(long), bad), api.ErrArg},
		{"too long, without a band", append(slices.Clone(long), cold), api.ErrRange},
		{"too long, without a band, not well-formed", append(slices.Clone(long), cold, bad), api.ErrRange},
		{"too long, not well-formed, without a band", append(slices.Clone(long), bad, cold), api.ErrArg},
	} {
		checkSeveral(t, x.name, small(), x.l, api.Range{}, x.e)
	}
}

// alone returns what Elapsed says of a segment for its worst rate bound, or what Worst returns otherwise.
func alone(t *testing.T, table api.Table, s api.Segment) (api.Range, api.Errno) {
	t.Helper()
	rate, e := drift.Worst(table, s.Temp, s.Age)
	if e != api.OK {
		return api.Range{}, e
	}
	return elapsedOf(t, rate, s.Count), api.OK
}

// P7.6: one segment has the true time that Elapsed says for its worst rate bound.
func TestOneSegment(t *testing.T) {
	r := rand.New(rand.NewSource(6))
	right := 0
	for range 3000 {
		table, s := anyTable(r), anySegment(r)
		want, e := alone(t, table, s)
		checkSeveral(t, "one", table, []api.Segment{s}, want, e)
		if e == api.OK {
			right++
		}
	}
	if right < 500 {
		t.Error("only", right, "segments with a band")
	}
}

// P7.6: a further segment adds its own true time, and the order of segments plays no part.
func TestFurtherSegments(t *testing.T) {
	r := rand.New(rand.NewSource(8))
	for range 300 {
		table := anyTable(r)
		before := copied(table)
		var l []api.Segment
		sum := api.Range{}
		for range r.Intn(api.MaxList + 1) {
			s := anySegment(r)
			s.Temp, s.Age = raised(s.Temp, table.Temps[0]), raised(s.Age, table.Ages[0])
			own, e := alone(t, table, s)
			if e != api.OK {
				t.Fatalf("%v has no rate bound in %v: %d", s, table, e)
			}
			l = append(l, s)
			sum = api.Range{Lo: sum.Lo + own.Lo, Hi: sum.Hi + own.Hi}
			checkSeveral(t, "further", table, l, sum, api.OK)
		}
		for range 4 {
			r.Shuffle(len(l), func(i, j int) { l[i], l[j] = l[j], l[i] })
			checkSeveral(t, "in another order", table, l, sum, api.OK)
		}
		if !equal(table, before) {
			t.Fatalf("%v became %v", before, table)
		}
	}
}
