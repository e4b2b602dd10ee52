package interval_test

import (
	"math"
	"math/rand"
	"slices"
	"testing"

	"regulator/api"
	"regulator/interval"
)

const most = api.MaxTime

type list = []api.Interval

// near is how many times at each end of all times are tried one by one.
const near = 8

// Integers at which something changes, and around them.
var edges = []int{
	math.MinInt, math.MinInt + 1, -most - 1, -most, -2, -1, 0, 1, 2, 7, most / 2,
	most - 2, most - 1, most, most + 1, most + 2, math.MaxInt - 1, math.MaxInt,
}

func isTime(x int) bool { return 0 <= x && x <= most }

func has(i api.Interval, x int) bool { return i.Lo <= x && x <= i.Hi }

// within reports whether b has all times of a.
func within(a, b api.Interval) bool { return b.Lo <= a.Lo && a.Hi <= b.Hi }

// valid goes through valid intervals with ends near 0 and near MaxTime.
func valid(yield func(api.Interval) bool) {
	for low := range 2 * near {
		for high := low; high < 2*near; high++ {
			if !yield(api.Interval{Lo: spot(low), Hi: spot(high)}) {
				return
			}
		}
	}
}

// spot returns one of 2 * near times, in rising order: the first half of them from 0 on, the others up to MaxTime.
func spot(k int) int {
	if k < near {
		return k
	}
	return most - 2*near + 1 + k
}

// invalid goes through all intervals with the edges above that are not valid.
func invalid(yield func(api.Interval) bool) {
	for _, low := range edges {
		for _, high := range edges {
			if isTime(low) && isTime(high) && low <= high {
				continue
			}
			if !yield(api.Interval{Lo: low, Hi: high}) {
				return
			}
		}
	}
}

// invalidLists goes through lists that are not valid: with an interval that is not, or with too many.
func invalidLists(yield func(list) bool) {
	good := api.Interval{Lo: 1, Hi: 5}
	for bad := range invalid {
		for _, l := range []list{{bad}, {bad, good}, {good, bad}, {good, bad, good}} {
			if !yield(l) {
				return
			}
		}
	}
	last := append(slices.Repeat(list{good}, 63), api.Interval{Lo: 5, Hi: 4})
	_ = yield(last) && yield(slices.Repeat(list{good}, 65)) && yield(slices.Repeat(list{good}, 1000)) && yield(make(list, 65))
}

// anyInterval returns a valid interval with ends near 0 or near MaxTime.
func anyInterval(r *rand.Rand) api.Interval {
	a, b := r.Intn(2*near), r.Intn(2*near)
	return api.Interval{Lo: spot(min(a, b)), Hi: spot(max(a, b))}
}

func anyList(r *rand.Rand, length int) list {
	l := make(list, length)
	for k := range l {
		l[k] = anyInterval(r)
	}
	return l
}

// lists goes through valid lists: all of up to three short intervals, and a fixed sequence of mixed ones.
func lists(yield func(list) bool) {
	short := list{}
	for low := range 5 {
		for high := low; high < 5; high++ {
			short = append(short, api.Interval{Lo: low, Hi: high})
		}
	}
	if !yield(nil) || !yield(list{}) {
		return
	}
	for _, a := range short {
		if !yield(list{a}) {
			return
		}
		for _, b := range short {
			if !yield(list{a, b}) {
				return
			}
			for _, c := range short {
				if !yield(list{a, b, c}) {
					return
				}
			}
		}
	}
	r := rand.New(rand.NewSource(1))
	for k := range 2000 {
		if !yield(anyList(r, k%65)) {
			return
		}
	}
}

// needs goes through the needs that matter for a list.
func needs(l list) []int {
	n := len(l)
	return slices.DeleteFunc([]int{1, 2, 3, n / 2, n - 1, n, n + 1, 63, 64}, func(need int) bool {
		return need < 1 || need > 64
	})
}

// stretches goes through all times, in stretches that each interval above has as a whole, or not at all.
func stretches(yield func(api.Interval) bool) {
	for k := range 2 * near {
		if k == near && !yield(api.Interval{Lo: near, Hi: most - near}) {
			return
		}
		if !yield(api.Interval{Lo: spot(k), Hi: spot(k)}) {
			return
		}
	}
}

// depth counts by the definition how many intervals have a time.
func depth(l list, x int) int {
	n := 0
	for _, i := range l {
		if has(i, x) {
			n++
		}
	}
	return n
}

// covered puts together what is covered stretch by stretch.
func covered(l list, need int) list {
	var out list
	for s := range stretches {
		if depth(l, s.Lo) < need {
			continue
		}
		if n := len(out); n > 0 && out[n-1].Hi+1 == s.Lo {
			out[n-1].Hi = s.Hi
		} else {
			out = append(out, s)
		}
	}
	return out
}

func cover(t *testing.T, l list, need int) list {
	t.Helper()
	c, e := interval.Cover(l, need)
	if e != api.OK {
		t.Errorf("Cover(%v, %d) is the error %d", l, need, e)
	}
	return c
}

// P2.1: B1.
func TestValid(t *testing.T) {
	for _, x := range []struct {
		i    api.Interval
		want bool
	}{
		{api.Interval{}, true},
		{api.Interval{Lo: 0, Hi: most}, true},
		{api.Interval{Lo: most, Hi: most}, true},
		{api.Interval{Lo: 5, Hi: 5}, true},
		{api.Interval{Lo: 5, Hi: 6}, true},
		{api.Interval{Lo: 6, Hi: 5}, false},
		{api.Interval{Lo: -1, Hi: 5}, false},
		{api.Interval{Lo: -2, Hi: -1}, false},
		{api.Interval{Lo: 0, Hi: most + 1}, false},
		{api.Interval{Lo: most + 1, Hi: most + 1}, false},
		{api.Interval{Lo: most, Hi: 0}, false},
		{api.Interval{Lo: math.MinInt, Hi: math.MaxInt}, false},
		{api.Interval{Lo: math.MaxInt, Hi: math.MinInt}, false},
	} {
		if got := interval.Valid(x.i); got != x.want {
			t.Errorf("Valid(%v) is %v", x.i, got)
		}
	}
	for i := range valid {
		if !interval.Valid(i) {
			t.Errorf("%v is not valid", i)
		}
	}
	for i := range invalid {
		if interval.Valid(i) {
			t.Errorf("%v is valid", i)
		}
	}
}

// P2.1: the chapter's examples.
func TestExamples(t *testing.T) {
	l := list{{Lo: 0, Hi: 10}, {Lo: 5, Hi: 20}, {Lo: 11, Hi: 12}}
	for need, want := range []list{1: {{Lo: 0, Hi: 20}}, 2: {{Lo: 5, Hi: 12}}, 3: {}} {
		if need == 0 {
			continue
		}
		if got := cover(t, l, need); !slices.Equal(got, want) {
			t.Errorf("Cover with the need %d is %v, not %v", need, got, want)
		}
	}
	if got, e := interval.Grow(api.Interval{Lo: 5, Hi: 20}, 7, 1); got != (api.Interval{Lo: 0, Hi: 21}) || e != api.OK {
		t.Error(got, e)
	}
}

// P2.1: B2 as it is worded.
func TestMeet(t *testing.T) {
	for _, x := range []struct {
		a, b, want api.Interval
		ok         bool
	}{
		{api.Interval{Lo: 0, Hi: 10}, api.Interval{Lo: 5, Hi: 20}, api.Interval{Lo: 5, Hi: 10}, true},
		{api.Interval{Lo: 3, Hi: 9}, api.Interval{Lo: 3, Hi: 9}, api.Interval{Lo: 3, Hi: 9}, true},
		{api.Interval{Lo: 0, Hi: most}, api.Interval{Lo: 7, Hi: 8}, api.Interval{Lo: 7, Hi: 8}, true},
		// one time in common, at 0 and MaxTime too
		{api.Interval{Lo: 0, Hi: 10}, api.Interval{Lo: 10, Hi: 20}, api.Interval{Lo: 10, Hi: 10}, true},
		{api.Interval{}, api.Interval{Lo: 0, Hi: 5}, api.Interval{}, true},
		{api.Interval{Lo: 0, Hi: most}, api.Interval{Lo: most, Hi: most}, api.Interval{Lo: most, Hi: most}, true},
		// neighbours have none
		{api.Interval{Lo: 0, Hi: 10}, api.Interval{Lo: 11, Hi: 12}, api.Interval{}, false},
		{api.Interval{}, api.Interval{Lo: most, Hi: most}, api.Interval{}, false},
	} {
		if got, ok, e := interval.Meet(x.a, x.b); got != x.want || ok != x.ok || e != api.OK {
			t.Errorf("Meet(%v, %v) is %v, %v, %d", x.a, x.b, got, ok, e)
		}
	}
}

// P2.2: a time is in what two intervals have in common exactly if it is in both; the order of both plays no part.
func TestMeetTimes(t *testing.T) {
	for a := range valid {
		for b := range valid {
			both, ok, e := interval.Meet(a, b)
			if e != api.OK || ok && !interval.Valid(both) || !ok && both != (api.Interval{}) {
				t.Fatalf("Meet(%v, %v) is %v, %v, %d", a, b, both, ok, e)
			}
			for s := range stretches {
				for _, x := range []int{s.Lo, s.Hi} {
					if (ok && has(both, x)) != (has(a, x) && has(b, x)) {
						t.Fatalf("Meet(%v, %v) is %v, %v: %d", a, b, both, ok, x)
					}
				}
			}
			if turned, still, f := interval.Meet(b, a); turned != both || still != ok || f != api.OK {
				t.Fatalf("Meet(%v, %v) is %v, %v, %d", b, a, turned, still, f)
			}
		}
	}
}

// P2.1 and P1: Meet with an interval that is not valid.
func TestMeetInvalid(t *testing.T) {
	other := api.Interval{Lo: 1, Hi: 5}
	for bad := range invalid {
		for _, x := range [][2]api.Interval{{bad, other}, {other, bad}, {bad, bad}} {
			if got, ok, e := interval.Meet(x[0], x[1]); got != (api.Interval{}) || ok || e != api.ErrArg {
				t.Errorf("Meet(%v, %v) is %v, %v, %d", x[0], x[1], got, ok, e)
			}
		}
	}
}

// P2.1: B3 as it is worded.
func TestHull(t *testing.T) {
	for _, x := range []struct {
		l    list
		want api.Interval
	}{
		{list{{}}, api.Interval{}},
		{list{{Lo: 3, Hi: 9}}, api.Interval{Lo: 3, Hi: 9}},
		{list{{Lo: 3, Hi: 9}, {Lo: 20, Hi: 30}}, api.Interval{Lo: 3, Hi: 30}},
		{list{{Lo: 20, Hi: 30}, {Lo: 3, Hi: 9}}, api.Interval{Lo: 3, Hi: 30}},
		{list{{Lo: 3, Hi: 40}, {Lo: 5, Hi: 9}, {Lo: 7, Hi: 8}}, api.Interval{Lo: 3, Hi: 40}},
		{list{{Lo: most, Hi: most}, {}}, api.Interval{Lo: 0, Hi: most}},
		{append(slices.Repeat(list{{Lo: 5, Hi: 6}}, 63), api.Interval{Lo: 1, Hi: 9}), api.Interval{Lo: 1, Hi: 9}},
	} {
		if got, e := interval.Hull(x.l...); got != x.want || e != api.OK {
			t.Errorf("Hull(%v) is %v, %d, not %v", x.l, got, e, x.want)
		}
	}
}

// P2.3: the hull has every interval of the list, and begins and ends with one of them.
func TestHullEnds(t *testing.T) {
	for l := range lists {
		if len(l) == 0 {
			continue
		}
		hull, e := interval.Hull(l...)
		begins, ends := false, false
		for _, i := range l {
			if !within(i, hull) {
				t.Errorf("Hull(%v) is %v, %d: without %v", l, hull, e, i)
			}
			begins = begins || i.Lo == hull.Lo
			ends = ends || i.Hi == hull.Hi
		}
		if !begins || !ends || e != api.OK {
			t.Errorf("Hull(%v) is %v, %d", l, hull, e)
		}
	}
}

// P2.1 and P1: Hull of no interval, and of lists that are not valid.
func TestHullInvalid(t *testing.T) {
	check := func(l list) {
		t.Helper()
		if got, e := interval.Hull(l...); got != (api.Interval{}) || e != api.ErrArg {
			t.Errorf("Hull of %d, %v, is %v, %d", len(l), l, got, e)
		}
	}
	check(nil)
	check(list{})
	for l := range invalidLists {
		check(l)
	}
}

// P2.1: B4 as it is worded, cut at 0 and at MaxTime.
func TestGrow(t *testing.T) {
	for _, x := range []struct {
		i           api.Interval
		left, right int
		want        api.Interval
	}{
		{api.Interval{Lo: 5, Hi: 20}, 0, 0, api.Interval{Lo: 5, Hi: 20}},
		{api.Interval{Lo: 5, Hi: 20}, 4, 1, api.Interval{Lo: 1, Hi: 21}},
		{api.Interval{Lo: 5, Hi: 20}, 0, 7, api.Interval{Lo: 5, Hi: 27}},
		{api.Interval{Lo: 5, Hi: 20}, 3, 0, api.Interval{Lo: 2, Hi: 20}},
		// to 0 and to MaxTime exactly, and cut there
		{api.Interval{Lo: 5, Hi: 20}, 5, most - 20, api.Interval{Lo: 0, Hi: most}},
		{api.Interval{Lo: 5, Hi: 20}, 6, most - 19, api.Interval{Lo: 0, Hi: most}},
		{api.Interval{Lo: 5, Hi: 20}, 4, most - 21, api.Interval{Lo: 1, Hi: most - 1}},
		{api.Interval{Lo: 5, Hi: 20}, most, most, api.Interval{Lo: 0, Hi: most}},
		{api.Interval{}, 1, 0, api.Interval{}},
		{api.Interval{Lo: most, Hi: most}, 0, 1, api.Interval{Lo: most, Hi: most}},
		{api.Interval{Lo: most, Hi: most}, most, most, api.Interval{Lo: 0, Hi: most}},
	} {
		if got, e := interval.Grow(x.i, x.left, x.right); got != x.want || e != api.OK {
			t.Errorf("Grow(%v, %d, %d) is %v, %d, not %v", x.i, x.left, x.right, got, e, x.want)
		}
	}
}

// P2.4: a grown interval has the times of before, and growing twice is growing by the sums.
func TestGrowTwice(t *testing.T) {
	r := rand.New(rand.NewSource(4))
	some := func() int { return r.Intn(most+1) >> r.Intn(52) }
	for i := range valid {
		for range 40 {
			a, b := some(), some()
			c, d := some(), some()
			once, e := interval.Grow(i, a, b)
			if e != api.OK || !within(i, once) || !interval.Valid(once) {
				t.Fatalf("Grow(%v, %d, %d) is %v, %d", i, a, b, once, e)
			}
			if !isTime(a+c) || !isTime(b+d) {
				continue
			}
			twice, e := interval.Grow(once, c, d)
			sums, f := interval.Grow(i, a+c, b+d)
			if twice != sums || e != api.OK || f != api.OK {
				t.Fatalf("%v by %d, %d, then by %d, %d: %v, %v", i, a, b, c, d, twice, sums)
			}
		}
	}
}

// P2.1 and P1: Grow with an interval or a length that is not valid.
func TestGrowInvalid(t *testing.T) {
	check := func(i api.Interval, left, right int) {
		t.Helper()
		if got, e := interval.Grow(i, left, right); got != (api.Interval{}) || e != api.ErrArg {
			t.Errorf("Grow(%v, %d, %d) is %v, %d", i, left, right, got, e)
		}
	}
	for bad := range invalid {
		check(bad, 1, 1)
		check(bad, -1, -1)
	}
	for _, left := range edges {
		for _, right := range edges {
			if !isTime(left) || !isTime(right) {
				check(api.Interval{Lo: 5, Hi: 20}, left, right)
				check(api.Interval{Lo: 0, Hi: most}, left, right)
			}
		}
	}
}

// P2.1: B5, for times, and for integers that are none.
func TestDepth(t *testing.T) {
	l := list{{Lo: 0, Hi: 10}, {Lo: 5, Hi: 20}, {Lo: 11, Hi: 12}, {Lo: 11, Hi: 12}, {Lo: 12, Hi: most}}
	for _, x := range []struct{ x, want int }{
		{0, 1}, {4, 1}, {5, 2}, {10, 2}, {11, 3}, {12, 4}, {13, 2}, {20, 2}, {21, 1}, {most, 1},
		{-1, 0}, {most + 1, 0}, {math.MinInt, 0}, {math.MaxInt, 0},
	} {
		if got, e := interval.Depth(l, x.x); got != x.want || e != api.OK {
			t.Errorf("the depth of %d is %d, %d, not %d", x.x, got, e, x.want)
		}
		for _, none := range []list{nil, {}} {
			if got, e := interval.Depth(none, x.x); got != 0 || e != api.OK {
				t.Errorf("the depth of %d in no interval is %d, %d", x.x, got, e)
			}
		}
	}
	if got, e := interval.Depth(slices.Repeat(list{{Lo: 3, Hi: 9}}, 64), 9); got != 64 || e != api.OK {
		t.Error(got, e)
	}
}

// P2.1: B5 by its definition.
func TestDepthOfLists(t *testing.T) {
	for l := range lists {
		for s := range stretches {
			if got, e := interval.Depth(l, s.Hi); got != depth(l, s.Hi) || e != api.OK {
				t.Fatalf("the depth of %d in %v is %d, %d", s.Hi, l, got, e)
			}
		}
	}
}

// P2.1 and P1: Depth in lists that are not valid, whatever is asked for.
func TestDepthInvalid(t *testing.T) {
	for l := range invalidLists {
		for _, x := range edges {
			if got, e := interval.Depth(l, x); got != 0 || e != api.ErrArg {
				t.Fatalf("the depth of %d in %d, %v, is %d, %d", x, len(l), l, got, e)
			}
		}
	}
}

// P2.1: B6 as it is worded.
func TestCover(t *testing.T) {
	for _, x := range []struct {
		name string
		l    list
		need int
		want list
	}{
		{"nothing", nil, 1, nil},
		{"nothing, for 64", list{}, 64, nil},
		{"one", list{{Lo: 3, Hi: 9}}, 1, list{{Lo: 3, Hi: 9}}},
		{"one, for two", list{{Lo: 3, Hi: 9}}, 2, nil},
		{"all times", list{{Lo: 0, Hi: most}, {Lo: 0, Hi: most}}, 2, list{{Lo: 0, Hi: most}}},
		{"single times", list{{}, {Lo: most, Hi: most}, {Lo: 5, Hi: 5}}, 1, list{{}, {Lo: 5, Hi: 5}, {Lo: most, Hi: most}}},
		// neighbours are joined, and are not in each other
		{"neighbours", list{{Lo: 0, Hi: 10}, {Lo: 11, Hi: 12}}, 1, list{{Lo: 0, Hi: 12}}},
		{"neighbours turned", list{{Lo: 11, Hi: 12}, {Lo: 0, Hi: 10}}, 1, list{{Lo: 0, Hi: 12}}},
		{"neighbours, for two", list{{Lo: 0, Hi: 10}, {Lo: 11, Hi: 12}}, 2, nil},
		{"neighbours twice", list{{Lo: 0, Hi: 10}, {Lo: 0, Hi: 10}, {Lo: 11, Hi: 12}, {Lo: 11, Hi: 12}}, 2, list{{Lo: 0, Hi: 12}}},
		{"neighbours of which more begin than end", list{{Lo: 0, Hi: 10}, {Lo: 11, Hi: 12}, {Lo: 11, Hi: 12}}, 2, list{{Lo: 11, Hi: 12}}},
		{"one time apart", list{{Lo: 0, Hi: 10}, {Lo: 12, Hi: 13}}, 1, list{{Lo: 0, Hi: 10}, {Lo: 12, Hi: 13}}},
		{"one time in common", list{{Lo: 0, Hi: 10}, {Lo: 10, Hi: 13}}, 2, list{{Lo: 10, Hi: 10}}},
		{"neighbours to MaxTime", list{{Lo: most, Hi: most}, {Lo: 0, Hi: most - 1}}, 1, list{{Lo: 0, Hi: most}}},
		{"nested", list{{Lo: 0, Hi: 10}, {Lo: 2, Hi: 8}, {Lo: 4, Hi: 6}}, 2, list{{Lo: 2, Hi: 8}}},
		{"twice deep", list{{Lo: 0, Hi: 3}, {Lo: 8, Hi: 10}, {Lo: 0, Hi: 10}}, 2, list{{Lo: 0, Hi: 3}, {Lo: 8, Hi: 10}}},
		{"64", slices.Repeat(list{{Lo: 3, Hi: 9}}, 64), 64, list{{Lo: 3, Hi: 9}}},
		{"63 of 64", append(slices.Repeat(list{{Lo: 3, Hi: 9}}, 63), api.Interval{Lo: 20, Hi: 30}), 63, list{{Lo: 3, Hi: 9}}},
		{"64, one of which is elsewhere", append(slices.Repeat(list{{Lo: 3, Hi: 9}}, 63), api.Interval{Lo: 20, Hi: 30}), 64, nil},
	} {
		if got := cover(t, x.l, x.need); !slices.Equal(got, x.want) {
			t.Errorf("%s: %v, not %v", x.name, got, x.want)
		}
	}
}

// P2.1: as many intervals as there may be, all of them apart.
func TestCoverApart(t *testing.T) {
	l := make(list, 64)
	for k := range l {
		l[k] = api.Interval{Lo: 10 * k, Hi: 10*k + 8}
	}
	if got := cover(t, l, 1); !slices.Equal(got, l) {
		t.Error(got)
	}
	turned := slices.Clone(l)
	slices.Reverse(turned)
	if got := cover(t, turned, 1); !slices.Equal(got, l) {
		t.Error(got)
	}
}

// P2.5: a time is covered exactly if at least need intervals have it; what is returned is valid, rises, and is apart.
func TestCoverTimes(t *testing.T) {
	for l := range lists {
		for _, need := range needs(l) {
			got := cover(t, l, need)
			if want := covered(l, need); !slices.Equal(got, want) {
				t.Fatalf("Cover(%v, %d) is %v, not %v", l, need, got, want)
			}
			for k, i := range got {
				if !interval.Valid(i) || k > 0 && got[k-1].Hi+1 >= i.Lo {
					t.Fatalf("Cover(%v, %d) is %v", l, need, got)
				}
			}
		}
	}
}

// missing returns the first interval of a that is not within one of b, and true.
func missing(a, b list) (api.Interval, bool) {
	for _, i := range a {
		if !slices.ContainsFunc(b, func(j api.Interval) bool { return within(i, j) }) {
			return i, true
		}
	}
	return api.Interval{}, false
}

// P2.6: with a greater need no further time is covered, and with a further interval none less.
func TestMore(t *testing.T) {
	r := rand.New(rand.NewSource(6))
	for l := range lists {
		for _, need := range needs(l) {
			c := cover(t, l, need)
			if need < 64 {
				if i, ok := missing(cover(t, l, need+1), c); ok {
					t.Fatalf("%v: %v has more for %d than for %d", l, i, need+1, need)
				}
			}
			if len(l) < 64 {
				more := slices.Insert(slices.Clone(l), r.Intn(len(l)+1), anyInterval(r))
				if i, ok := missing(c, cover(t, more, need)); ok {
					t.Fatalf("%v has %v for %d, but %v does not", l, i, need, more)
				}
			}
		}
	}
}

// P2.7: the order of a list plays no part in depths and covers.
func TestOrder(t *testing.T) {
	r := rand.New(rand.NewSource(7))
	for l := range lists {
		other := slices.Clone(l)
		r.Shuffle(len(other), func(i, j int) { other[i], other[j] = other[j], other[i] })
		for _, need := range needs(l) {
			if a, b := cover(t, l, need), cover(t, other, need); !slices.Equal(a, b) {
				t.Fatalf("Cover(%v, %d) is %v, but %v of %v", l, need, a, b, other)
			}
		}
		for s := range stretches {
			a, e := interval.Depth(l, s.Lo)
			b, f := interval.Depth(other, s.Lo)
			if a != b || e != api.OK || f != api.OK {
				t.Fatalf("the depth of %d in %v is %d, but %d in %v", s.Lo, l, a, b, other)
			}
		}
	}
}

// P2.7: the greatest depth is the greatest need for which something is covered.
func TestGreatestDepth(t *testing.T) {
	for l := range lists {
		greatest := 0
		for s := range stretches {
			n, _ := interval.Depth(l, s.Lo)
			greatest = max(greatest, n)
		}
		for need := 1; need <= 64; need++ {
			if c := cover(t, l, need); (len(c) > 0) != (need <= greatest) {
				t.Fatalf("the greatest depth of %v is %d, but Cover for %d is %v", l, greatest, need, c)
			}
		}
	}
}

// P2.1 and P1: Cover of lists that are not valid, and with needs that are out of bounds.
func TestCoverInvalid(t *testing.T) {
	check := func(l list, need int) {
		t.Helper()
		if got, e := interval.Cover(l, need); len(got) != 0 || e != api.ErrArg {
			t.Errorf("Cover of %d, %v, for %d is %v, %d", len(l), l, need, got, e)
		}
	}
	for l := range invalidLists {
		for _, need := range []int{math.MinInt, 0, 1, 2, 64, 65, math.MaxInt} {
			check(l, need)
		}
	}
	for _, l := range []list{nil, {{Lo: 1, Hi: 5}}, slices.Repeat(list{{Lo: 3, Hi: 9}}, 64)} {
		for _, need := range []int{math.MinInt, -1, 0, 65, 66, math.MaxInt} {
			check(l, need)
		}
	}
}

// DOC.md's rules: arguments stay as they are, and results share memory neither with them nor with each other.
func TestMemory(t *testing.T) {
	for l := range lists {
		before := slices.Clone(l)
		interval.Hull(l...)
		interval.Depth(l, 3)
		first := cover(t, l, 1)
		second := cover(t, l, 1)
		if !slices.Equal(first, second) {
			t.Fatalf("%v, then %v", first, second)
		}
		kept := slices.Clone(second)
		for k := range first {
			first[k] = api.Interval{Lo: -1, Hi: -1}
		}
		if !slices.Equal(l, before) || !slices.Equal(second, kept) {
			t.Fatalf("%v became %v, or %v became %v", before, l, kept, second)
		}
	}
}
