package belief_test

import (
	"math"
	"math/rand"
	"testing"

	"regulator/api"
	"regulator/belief"
	"regulator/drift"
)

const (
	most    = api.MaxTime
	stretch = 1000000000000000 // the greatest stretch of counts
	near    = 6                // how many times at each end of all times are tried one by one
)

// Integers at which something changes, and around them.
var (
	edges = []int{
		math.MinInt, -most, -1, 0, 1, 7, stretch - 1, stretch, stretch + 1,
		most - stretch - 1, most - stretch, most - stretch + 1, most - 1, most, most + 1, math.MaxInt,
	}
	rates = []int{math.MinInt, -1, 0, 1, 50000, 999999, 1000000, 1000001, math.MaxInt}
)

func isTime(x int) bool { return 0 <= x && x <= most }

func isRate(x int) bool { return 0 <= x && x <= 1000000 }

func isValid(i api.Interval) bool { return isTime(i.Lo) && isTime(i.Hi) && i.Lo <= i.Hi }

func has(i api.Interval, x int) bool { return i.Lo <= x && x <= i.Hi }

// within reports whether b has all times of a.
func within(a, b api.Interval) bool { return b.Lo <= a.Lo && a.Hi <= b.Hi }

// spot returns one of 2 * near times, in rising order: the first half of them from 0 on, the others up to MaxTime.
func spot(k int) int {
	if k < near {
		return k
	}
	return most - 2*near + 1 + k
}

// intervals goes through the valid intervals that begin and end at spots: one time alone, and all times, among them.
func intervals(yield func(api.Interval) bool) {
	for low := range 2 * near {
		for high := low; high < 2*near; high++ {
			if !yield(api.Interval{Lo: spot(low), Hi: spot(high)}) {
				return
			}
		}
	}
}

// anyIntervals goes through all intervals that begin and end at edges, most of which are not valid.
func anyIntervals(yield func(api.Interval) bool) {
	for _, low := range edges {
		for _, high := range edges {
			if !yield(api.Interval{Lo: low, Hi: high}) {
				return
			}
		}
	}
}

// anyBeliefs goes through all beliefs with the intervals above, at all edges as readings.
func anyBeliefs(yield func(api.Belief) bool) {
	for _, at := range edges {
		for i := range anyIntervals {
			if !yield(api.Belief{At: at, I: i}) {
				return
			}
		}
	}
}

// anyTime returns a time of any length in bits, often one that is near MaxTime.
func anyTime(r *rand.Rand) int {
	x := r.Intn(most+1) >> r.Intn(52)
	if r.Intn(2) == 0 {
		return most - x
	}
	return x
}

// anyInterval returns a valid interval of any width.
func anyInterval(r *rand.Rand) api.Interval {
	a, b := anyTime(r), anyTime(r)
	return api.Interval{Lo: min(a, b), Hi: max(a, b)}
}

// anyRate returns a rate bound of any length in bits.
func anyRate(r *rand.Rand) int { return r.Intn(api.MaxRate+1) >> r.Intn(21) }

// anyStretch returns a stretch of any length in bits.
func anyStretch(r *rand.Rand) int { return r.Intn(stretch+1) >> r.Intn(51) }

// wantAt is H2 as the chapter says it.
func wantAt(b api.Belief, rate, at int) (api.Interval, api.Errno) {
	switch {
	case !isTime(b.At) || !isValid(b.I) || !isRate(rate) || !isTime(at):
		return api.Interval{}, api.ErrArg
	case at < b.At:
		return api.Interval{}, api.ErrOrder
	case at-b.At > stretch:
		return api.Interval{}, api.ErrRange
	}
	passed, _ := drift.Elapsed(rate, at-b.At)
	return api.Interval{Lo: min(b.I.Lo+passed.Lo, most), Hi: min(b.I.Hi+passed.Hi, most)}, api.OK
}

// checkAt holds At, and Advance as H3 says, against an interval and an error.
func checkAt(t *testing.T, b api.Belief, rate, at int, want api.Interval, e api.Errno) {
	t.Helper()
	if i, got := belief.At(b, rate, at); i != want || got != e {
		t.Errorf("At(%v, %d, %d) is %v, %d, not %v, %d", b, rate, at, i, got, want, e)
	}
	next := api.Belief{}
	if e == api.OK {
		next = api.Belief{At: at, I: want}
	}
	if n, got := belief.Advance(b, rate, at); n != next || got != e {
		t.Errorf("Advance(%v, %d, %d) is %v, %d, not %v, %d", b, rate, at, n, got, next, e)
	}
}

func checkMeet(t *testing.T, b api.Belief, i api.Interval, want api.Belief, found bool, e api.Errno) {
	t.Helper()
	if met, ok, got := belief.Meet(b, i); met != want || ok != found || got != e {
		t.Errorf("Meet(%v, %v) is %v, %t, %d, not %v, %t, %d", b, i, met, ok, got, want, found, e)
	}
}

func checkWorst(t *testing.T, i api.Interval, show, want int, e api.Errno) {
	t.Helper()
	if n, got := belief.Worst(i, show); n != want || got != e {
		t.Errorf("Worst(%v, %d) is %d, %d, not %d, %d", i, show, n, got, want, e)
	}
}

// P8.1: the chapter's examples.
func TestExamples(t *testing.T) {
	b := api.Belief{At: 5, I: api.Interval{Lo: 100, Hi: 200}}
	checkAt(t, b, 50000, 1000005, api.Interval{Lo: 1000050, Hi: 1000251}, api.OK)
	for show, want := range map[int]int{100: 100, 140: 60, 150: 50} {
		checkWorst(t, api.Interval{Lo: 100, Hi: 200}, show, want, api.OK)
	}
}

// P8.1 and P8.8: H1 for all edges; a belief that begins excludes no time, and what it meets it becomes.
func TestStart(t *testing.T) {
	for _, at := range edges {
		b, e := belief.Start(at)
		if !isTime(at) {
			if b != (api.Belief{}) || e != api.ErrArg {
				t.Errorf("Start(%d) is %v, %d", at, b, e)
			}
			continue
		}
		if b != (api.Belief{At: at, I: api.Interval{Lo: 0, Hi: most}}) || e != api.OK {
			t.Errorf("Start(%d) is %v, %d", at, b, e)
		}
		for k := range 2 * near {
			if !has(b.I, spot(k)) {
				t.Errorf("Start(%d) is %v, without %d", at, b, spot(k))
			}
		}
		for i := range intervals {
			checkMeet(t, b, i, api.Belief{At: at, I: i}, true, api.OK)
		}
	}
}

// P8.1 and P1: H2 and H3 for all edges, right ones and wrong ones, with the errors in their order and no other result beside them; nothing panics.
func TestCarriedEdges(t *testing.T) {
	seen := map[api.Errno]int{}
	for b := range anyBeliefs {
		for _, rate := range rates {
			for _, at := range edges {
				want, e := wantAt(b, rate, at)
				checkAt(t, b, rate, at, want, e)
				seen[e]++
			}
		}
	}
	for _, e := range []api.Errno{api.OK, api.ErrArg, api.ErrOrder, api.ErrRange} {
		if seen[e] < 1000 {
			t.Errorf("only %d results with %d", seen[e], e)
		}
	}
}

// P8.1: H2 and H3, where each error hides the ones that come later.
func TestCarriedErrors(t *testing.T) {
	good := api.Interval{Lo: 100, Hi: 200}
	for _, x := range []struct {
		name     string
		b        api.Belief
		rate, at int
		e        api.Errno
	}{
		{"reading of the belief below 0", api.Belief{At: -1, I: good}, 0, 5, api.ErrArg},
		{"reading of the belief after MaxTime", api.Belief{At: most + 1, I: good}, 0, most, api.ErrArg},
		{"readings after MaxTime", api.Belief{At: most + 1, I: good}, 0, most + 1, api.ErrArg},
		{"interval empty", api.Belief{I: api.Interval{Lo: 6, Hi: 5}}, 0, 5, api.ErrArg},
		{"interval begins below 0", api.Belief{I: api.Interval{Lo: -1, Hi: 5}}, 0, 5, api.ErrArg},
		{"interval ends after MaxTime", api.Belief{I: api.Interval{Lo: 5, Hi: most + 1}}, 0, 5, api.ErrArg},
		{"no rate bound, below 0", api.Belief{I: good}, -1, 5, api.ErrArg},
		{"no rate bound, too great", api.Belief{I: good}, 1000001, 5, api.ErrArg},
		{"reading below 0", api.Belief{I: good}, 0, -1, api.ErrArg},
		{"reading after MaxTime", api.Belief{At: most, I: good}, 0, most + 1, api.ErrArg},
		{"reading before the belief", api.Belief{At: 6, I: good}, 0, 5, api.ErrOrder},
		{"reading 0 before the belief", api.Belief{At: most, I: good}, 1000000, 0, api.ErrOrder},
		{"count too great", api.Belief{I: good}, 0, stretch + 1, api.ErrRange},
		{"count too great, up to MaxTime", api.Belief{At: most - stretch - 1, I: good}, 0, most, api.ErrRange},
		{"count far too great", api.Belief{I: good}, 1000000, most, api.ErrRange},
		{"no rate bound, reading before", api.Belief{At: 6, I: good}, -1, 5, api.ErrArg},
		{"no rate bound, count too great", api.Belief{I: good}, 1000001, stretch + 1, api.ErrArg},
		{"interval empty, reading before", api.Belief{At: 6, I: api.Interval{Lo: 6, Hi: 5}}, 0, 5, api.ErrArg},
		{"interval empty, count too great", api.Belief{I: api.Interval{Lo: 6, Hi: 5}}, 0, stretch + 1, api.ErrArg},
		{"reading before by more than a stretch", api.Belief{At: stretch + 1, I: good}, 0, 0, api.ErrOrder},
		{"reading below 0, and before", api.Belief{At: 6, I: good}, 0, -1, api.ErrArg},
		{"all is wrong", api.Belief{At: -1, I: api.Interval{Lo: 6, Hi: -5}}, -1, -2, api.ErrArg},
		{"nothing is wrong", api.Belief{At: 5, I: good}, 0, 5, api.OK},
	} {
		t.Run(x.name, func(t *testing.T) {
			want := api.Interval{}
			if x.e == api.OK {
				want = good
			}
			checkAt(t, x.b, x.rate, x.at, want, x.e)
		})
	}
}
