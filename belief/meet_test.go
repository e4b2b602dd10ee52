package belief_test

import (
	"math/rand"
	"testing"

	"regulator/api"
	"regulator/belief"
)

// P8.1: H4 for intervals that are within each other, on either side, meet in one time alone, or touch without one.
func TestMeet(t *testing.T) {
	for _, x := range []struct {
		name    string
		own, i  api.Interval
		want    api.Interval
		nothing bool
	}{
		{"the same", api.Interval{Lo: 10, Hi: 20}, api.Interval{Lo: 10, Hi: 20}, api.Interval{Lo: 10, Hi: 20}, false},
		{"within the belief", api.Interval{Lo: 10, Hi: 20}, api.Interval{Lo: 12, Hi: 15}, api.Interval{Lo: 12, Hi: 15}, false},
		{"around the belief", api.Interval{Lo: 12, Hi: 15}, api.Interval{Lo: 10, Hi: 20}, api.Interval{Lo: 12, Hi: 15}, false},
		{"all times", api.Interval{Lo: 12, Hi: 15}, api.Interval{Lo: 0, Hi: most}, api.Interval{Lo: 12, Hi: 15}, false},
		{"of all times", api.Interval{Lo: 0, Hi: most}, api.Interval{Lo: 12, Hi: 15}, api.Interval{Lo: 12, Hi: 15}, false},
		{"before", api.Interval{Lo: 10, Hi: 20}, api.Interval{Lo: 5, Hi: 12}, api.Interval{Lo: 10, Hi: 12}, false},
		{"behind", api.Interval{Lo: 10, Hi: 20}, api.Interval{Lo: 18, Hi: 25}, api.Interval{Lo: 18, Hi: 20}, false},
		{"from the same time on", api.Interval{Lo: 10, Hi: 20}, api.Interval{Lo: 10, Hi: 15}, api.Interval{Lo: 10, Hi: 15}, false},
		{"up to the same time", api.Interval{Lo: 10, Hi: 20}, api.Interval{Lo: 15, Hi: 20}, api.Interval{Lo: 15, Hi: 20}, false},
		{"before, with one time", api.Interval{Lo: 10, Hi: 20}, api.Interval{Lo: 5, Hi: 10}, api.Interval{Lo: 10, Hi: 10}, false},
		{"behind, with one time", api.Interval{Lo: 10, Hi: 20}, api.Interval{Lo: 20, Hi: 25}, api.Interval{Lo: 20, Hi: 20}, false},
		{"one time within", api.Interval{Lo: 10, Hi: 20}, api.Interval{Lo: 14, Hi: 14}, api.Interval{Lo: 14, Hi: 14}, false},
		{"one time, the same", api.Interval{Lo: 14, Hi: 14}, api.Interval{Lo: 14, Hi: 14}, api.Interval{Lo: 14, Hi: 14}, false},
		{"0 alone", api.Interval{Lo: 0, Hi: most}, api.Interval{Lo: 0, Hi: 0}, api.Interval{Lo: 0, Hi: 0}, false},
		{"MaxTime alone", api.Interval{Lo: 0, Hi: most}, api.Interval{Lo: most, Hi: most}, api.Interval{Lo: most, Hi: most}, false},
		{"touching before", api.Interval{Lo: 10, Hi: 20}, api.Interval{Lo: 5, Hi: 9}, api.Interval{Lo: 10, Hi: 20}, true},
		{"touching behind", api.Interval{Lo: 10, Hi: 20}, api.Interval{Lo: 21, Hi: 25}, api.Interval{Lo: 10, Hi: 20}, true},
		{"far before", api.Interval{Lo: most - 1, Hi: most}, api.Interval{Lo: 0, Hi: 1}, api.Interval{Lo: most - 1, Hi: most}, true},
		{"far behind", api.Interval{Lo: 0, Hi: 0}, api.Interval{Lo: most, Hi: most}, api.Interval{Lo: 0, Hi: 0}, true},
		{"neighbours", api.Interval{Lo: 14, Hi: 14}, api.Interval{Lo: 15, Hi: 15}, api.Interval{Lo: 14, Hi: 14}, true},
	} {
		t.Run(x.name, func(t *testing.T) {
			for _, at := range []int{0, 1, 17, most} {
				checkMeet(t, api.Belief{At: at, I: x.own}, x.i, api.Belief{At: at, I: x.want}, !x.nothing, api.OK)
			}
		})
	}
}

// P8.1 and P1: H4 for all edges as reading of the belief, and as ends of its interval or of the other one; what is not valid is ErrArg, with no other result.
func TestMeetEdges(t *testing.T) {
	good := api.Interval{Lo: 5, Hi: most - 5}
	for b := range anyBeliefs {
		met, ok, e := belief.Meet(b, good)
		if right := isTime(b.At) && isValid(b.I); right != (e == api.OK) {
			t.Errorf("Meet(%v, %v) is the error %d", b, good, e)
		} else if !right && (met != api.Belief{} || ok || e != api.ErrArg) {
			t.Errorf("Meet(%v, %v) is %v, %t, %d", b, good, met, ok, e)
		}
	}
	for i := range anyIntervals {
		if isValid(i) {
			continue
		}
		for _, own := range []api.Interval{good, {Lo: 0, Hi: 0}, {Lo: 0, Hi: most}} {
			checkMeet(t, api.Belief{At: 5, I: own}, i, api.Belief{}, false, api.ErrArg)
		}
		checkMeet(t, api.Belief{At: -1, I: i}, i, api.Belief{}, false, api.ErrArg)
	}
}

// checkMet holds what a belief met against the times that it and an interval have, of those that are given.
func checkMet(t *testing.T, b api.Belief, i api.Interval, spots []int) {
	t.Helper()
	met, ok, e := belief.Meet(b, i)
	if e != api.OK || met.At != b.At || !isValid(met.I) {
		t.Fatalf("Meet(%v, %v) is %v, %t, %d", b, i, met, ok, e)
	}
	common := false
	for _, x := range spots {
		both := has(b.I, x) && has(i, x)
		common = common || both
		if ok && has(met.I, x) != both {
			t.Errorf("Meet(%v, %v) is %v, but both have %d: %t", b, i, met, x, both)
		}
	}
	if ok != common {
		t.Errorf("Meet(%v, %v) is %v, %t, but a time is in both: %t", b, i, met, ok, common)
	}
	if uncut := within(b.I, i); (met == b) != (!common || uncut) {
		t.Errorf("Meet(%v, %v) is %v, with a time in both: %t, nothing cut: %t", b, i, met, common, uncut)
	}
}

// P8.6: what is met is in both, true time that is in both is in it, and the belief stays as it is if nothing is, or nothing was cut: all intervals with ends near 0 and near MaxTime.
func TestMeetNear(t *testing.T) {
	spots := []int{most / 2}
	for k := range 2 * near {
		spots = append(spots, spot(k))
	}
	for own := range intervals {
		for i := range intervals {
			checkMet(t, api.Belief{At: 7, I: own}, i, spots)
		}
	}
}

// P8.6: the same for mixed intervals, at their ends and beside them.
func TestMeetMixed(t *testing.T) {
	r := rand.New(rand.NewSource(6))
	for range 20000 {
		own, i := anyInterval(r), anyInterval(r)
		spots := []int{anyTime(r), anyTime(r), anyTime(r)}
		for _, x := range []int{own.Lo, own.Hi, i.Lo, i.Hi} {
			spots = append(spots, x-1, x, x+1)
		}
		checkMet(t, api.Belief{At: anyTime(r), I: own}, i, spots)
	}
}

// P8.1: H5 for shown times before, within and behind an interval, and at its ends.
func TestWorst(t *testing.T) {
	i := api.Interval{Lo: 100, Hi: 200}
	for _, x := range []struct {
		i          api.Interval
		show, want int
	}{
		{i, 0, 200},
		{i, 99, 101},
		{i, 100, 100},
		{i, 101, 99},
		{i, 149, 51},
		{i, 150, 50},
		{i, 151, 51},
		{i, 199, 99},
		{i, 200, 100},
		{i, 201, 101},
		{i, most, most - 100},
		{api.Interval{Lo: 100, Hi: 201}, 150, 51},
		{api.Interval{Lo: 100, Hi: 201}, 151, 51},
		{api.Interval{Lo: 100, Hi: 100}, 100, 0},
		{api.Interval{Lo: 100, Hi: 100}, 99, 1},
		{api.Interval{Lo: 100, Hi: 100}, 101, 1},
		{api.Interval{Lo: 0, Hi: most}, 0, most},
		{api.Interval{Lo: 0, Hi: most}, most, most},
		{api.Interval{Lo: 0, Hi: most}, most / 2, most / 2},
		{api.Interval{Lo: 0, Hi: 0}, 0, 0},
		{api.Interval{Lo: 0, Hi: 0}, most, most},
		{api.Interval{Lo: most, Hi: most}, most, 0},
		{api.Interval{Lo: most, Hi: most}, 0, most},
	} {
		checkWorst(t, x.i, x.show, x.want, api.OK)
	}
}

// P8.1 and P1: H5 for all edges; what is not valid, or no time, is ErrArg, with no other result.
func TestWorstEdges(t *testing.T) {
	for i := range anyIntervals {
		for _, show := range edges {
			n, e := belief.Worst(i, show)
			if right := isValid(i) && isTime(show); right != (e == api.OK) {
				t.Errorf("Worst(%v, %d) is the error %d", i, show, e)
			} else if !right && (n != 0 || e != api.ErrArg) {
				t.Errorf("Worst(%v, %d) is %d, %d", i, show, n, e)
			}
		}
	}
}

// apart returns the difference between two times.
func apart(a, b int) int { return max(a, b) - min(a, b) }

// checkFarthest holds Worst against the times of an interval, of those that are given.
func checkFarthest(t *testing.T, i api.Interval, show int, spots []int) {
	t.Helper()
	n, e := belief.Worst(i, show)
	if e != api.OK || n != apart(i.Lo, show) && n != apart(i.Hi, show) {
		t.Errorf("Worst(%v, %d) is %d, %d, as far as no end", i, show, n, e)
	}
	for _, x := range spots {
		if has(i, x) && apart(x, show) > n {
			t.Errorf("Worst(%v, %d) is %d, but %d is farther", i, show, n, x)
		}
	}
}

// P8.7: no time of an interval is farther from what is shown than Worst says, and an end is that far.
func TestFarthest(t *testing.T) {
	spots := []int{most / 2}
	for k := range 2 * near {
		spots = append(spots, spot(k))
	}
	for i := range intervals {
		for _, show := range append(spots, near, 2*near, most-near) {
			checkFarthest(t, i, show, spots)
		}
	}
	r := rand.New(rand.NewSource(7))
	for range 20000 {
		i := anyInterval(r)
		within := i.Lo + r.Intn(i.Hi-i.Lo+1)
		for _, show := range []int{anyTime(r), i.Lo, i.Hi, (i.Lo + i.Hi) / 2, within} {
			checkFarthest(t, i, show, []int{i.Lo, i.Hi, within, (i.Lo + i.Hi) / 2})
		}
	}
}
