package slew_test

import (
	"math"
	"math/big"
	"math/rand"
	"testing"

	"regulator/api"
	"regulator/slew"
)

const (
	most = api.MaxTime
	fast = api.MaxSpeed
	far  = 1000000000000 // the greatest horizon
)

// Integers at which something changes, and around them.
var (
	edges    = []int{math.MinInt, -most, -1, 0, 1, 1000, most - 1000, most - 1, most, most + 1, math.MaxInt}
	rates    = []int{math.MinInt, -fast - 1, -fast, -1, 0, 1, fast, fast + 1, math.MaxInt}
	limits   = []int{math.MinInt, -1, 0, 1, fast, fast + 1, math.MaxInt}
	horizons = []int{math.MinInt, -1, 0, 1, 1000, far, far + 1, math.MaxInt}
)

func isTime(x int) bool { return 0 <= x && x <= most }

func isValid(o api.Out) bool {
	return isTime(o.At) && isTime(o.Show) && -fast <= o.Rate && o.Rate <= fast
}

// anyClocks goes through all output clocks of edges and rates, most of which are not valid.
func anyClocks(yield func(api.Out) bool) {
	for _, at := range edges {
		for _, show := range edges {
			for _, rate := range rates {
				if !yield(api.Out{At: at, Show: show, Rate: rate}) {
					return
				}
			}
		}
	}
}

// number returns an integer as one of any length.
func number(x int) *big.Int { return big.NewInt(int64(x)) }

// product returns the product of two integers, of any length.
func product(a, b int) *big.Int { return new(big.Int).Mul(number(a), number(b)) }

// below returns the quotient of two integers of any length, rounded down.
func below(a, b *big.Int) *big.Int {
	// Euclid's quotient is the one that is rounded down if b is above 0.
	return new(big.Int).Div(a, b)
}

// part returns the part of some counts that a rate says, rounded down.
func part(count, rate int) int {
	return int(below(product(count, rate), number(api.Billion)).Int64())
}

// anyUpTo returns an integer from 0 to n of any length in bits.
func anyUpTo(r *rand.Rand, n int) int { return r.Intn(n+1) >> r.Intn(52) }

// anyTime returns a time of any length in bits, often one that is near MaxTime.
func anyTime(r *rand.Rand) int {
	x := anyUpTo(r, most)
	if r.Intn(2) == 0 {
		return most - x
	}
	return x
}

// anySign returns an integer, or its negative.
func anySign(r *rand.Rand, x int) int {
	if r.Intn(2) == 0 {
		return -x
	}
	return x
}

// anyRate returns a rate of any length in bits, and often the greatest one or the least one.
func anyRate(r *rand.Rand) int {
	if r.Intn(8) == 0 {
		return anySign(r, fast)
	}
	return anySign(r, r.Intn(fast+1)>>r.Intn(27))
}

// anyClock returns a valid output clock.
func anyClock(r *rand.Rand) api.Out {
	return api.Out{At: anyTime(r), Show: anyTime(r), Rate: anyRate(r)}
}

// wantShow is I2 as the chapter says it.
func wantShow(o api.Out, at int) (int, api.Errno) {
	if !isValid(o) || !isTime(at) {
		return 0, api.ErrArg
	}
	if at < o.At {
		return 0, api.ErrOrder
	}
	shown := below(product(at-o.At, api.Billion+o.Rate), number(api.Billion))
	shown.Add(shown, number(o.Show))
	if shown.Cmp(number(most)) > 0 {
		return 0, api.ErrRange
	}
	return int(shown.Int64()), api.OK
}

func checkShow(t *testing.T, o api.Out, at, want int, e api.Errno) {
	t.Helper()
	if show, got := slew.Show(o, at); show != want || got != e {
		t.Errorf("Show(%v, %d) is %d, %d, not %d, %d", o, at, show, got, want, e)
	}
}

// P9.1: the chapter's examples.
func TestExamples(t *testing.T) {
	o, e := slew.Start(0, 1000)
	if e != api.OK {
		t.Fatal("Start is the error", e)
	}
	checkShow(t, o, 2000, 3000, api.OK)
	for _, x := range []struct{ limit, rate, show, left int }{
		{100000000, 50000000, 24000, 0},
		{10000000, 10000000, 23200, 800},
	} {
		steered := api.Out{At: 2000, Show: 3000, Rate: x.rate}
		checkSteer(t, turn{o, 2000, 4000, x.limit, 20000}, steered, api.OK)
		checkShow(t, steered, 22000, x.show, api.OK)
		checkLeft(t, turn{o, 2000, 4000, x.limit, 20000}, x.left, api.OK)
	}
}

// P9.1: I1 for all edges; a clock that begins shows its time, and goes on with the counter.
func TestStart(t *testing.T) {
	for _, at := range edges {
		for _, show := range edges {
			want, e := api.Out{At: at, Show: show}, api.OK
			if !isTime(at) || !isTime(show) {
				want, e = api.Out{}, api.ErrArg
			}
			o, got := slew.Start(at, show)
			if o != want || got != e {
				t.Errorf("Start(%d, %d) is %v, %d, not %v, %d", at, show, o, got, want, e)
			}
			if e != api.OK {
				continue
			}
			checkShow(t, o, at, show, api.OK)
			if at < most-1000 && show < most-1000 {
				checkShow(t, o, at+1000, show+1000, api.OK)
			}
		}
	}
}

// P9.1 and P1: I2 for all edges, right ones and wrong ones, with the errors in their order and no other result beside them; nothing panics.
func TestShowEdges(t *testing.T) {
	seen := map[api.Errno]int{}
	for o := range anyClocks {
		for _, at := range edges {
			want, e := wantShow(o, at)
			checkShow(t, o, at, want, e)
			seen[e]++
		}
	}
	for _, e := range []api.Errno{api.OK, api.ErrArg, api.ErrOrder, api.ErrRange} {
		if seen[e] < 100 {
			t.Errorf("only %d results with %d", seen[e], e)
		}
	}
}

// P9.1: I2, where each error hides the ones that come later.
func TestShowErrors(t *testing.T) {
	for _, x := range []struct {
		name string
		o    api.Out
		at   int
		e    api.Errno
	}{
		{"reading of the clock below 0", api.Out{At: -1, Show: 5}, 5, api.ErrArg},
		{"reading of the clock after MaxTime", api.Out{At: most + 1, Show: 5}, most, api.ErrArg},
		{"time below 0", api.Out{Show: -1}, 5, api.ErrArg},
		{"time after MaxTime", api.Out{Show: most + 1}, 0, api.ErrArg},
		{"rate too low", api.Out{Rate: -fast - 1}, 5, api.ErrArg},
		{"rate too great", api.Out{Rate: fast + 1}, 5, api.ErrArg},
		{"rate of a clock that stands", api.Out{Rate: -api.Billion}, 5, api.ErrArg},
		{"reading below 0", api.Out{}, -1, api.ErrArg},
		{"reading after MaxTime", api.Out{At: most}, most + 1, api.ErrArg},
		{"reading one before the clock", api.Out{At: 6}, 5, api.ErrOrder},
		{"reading 0 before the clock", api.Out{At: most, Show: most, Rate: fast}, 0, api.ErrOrder},
		{"one more than MaxTime", api.Out{Show: 1}, most, api.ErrRange},
		{"the counts alone are more than MaxTime", api.Out{Rate: fast}, most, api.ErrRange},
		{"rate too great, reading before", api.Out{At: 6, Rate: fast + 1}, 5, api.ErrArg},
		{"rate too great, more than MaxTime", api.Out{Show: 1, Rate: fast + 1}, most, api.ErrArg},
		{"time after MaxTime, reading before", api.Out{At: 6, Show: most + 1}, 5, api.ErrArg},
		{"reading below 0, and before", api.Out{At: 6}, -1, api.ErrArg},
		{"reading after MaxTime, more than MaxTime", api.Out{Show: 1}, most + 1, api.ErrArg},
		{"all is wrong", api.Out{At: -1, Show: -1, Rate: math.MaxInt}, -2, api.ErrArg},
		{"nothing is wrong", api.Out{}, 0, api.OK},
	} {
		t.Run(x.name, func(t *testing.T) { checkShow(t, x.o, x.at, 0, x.e) })
	}
}

// P9.1: I2 for values worked out apart from the program: what is no integer is rounded down, for negative rates, too; and MaxTime is shown just so, or would be exceeded by one.
func TestShowWorked(t *testing.T) {
	for _, x := range []struct {
		name           string
		at, show, rate int
		next, want     int
		e              api.Errno
	}{
		{"at the reading", 5, 1000, fast, 5, 1000, api.OK},
		{"at the reading, slow", 5, 1000, -fast, 5, 1000, api.OK},
		{"one later", 5, 1000, 0, 6, 1001, api.OK},
		{"one later, a bit fast", 5, 1000, 1, 6, 1001, api.OK},
		{"one later, a bit slow", 5, 1000, -1, 6, 1000, api.OK},
		{"two later, a bit slow", 5, 1000, -1, 7, 1001, api.OK},
		{"a bit fast, not yet one more", 0, 0, 1, 999999999, 999999999, api.OK},
		{"a bit fast, one more", 0, 0, 1, 1000000000, 1000000001, api.OK},
		{"a bit slow, just one less", 0, 0, -1, 1000000000, 999999999, api.OK},
		{"a bit slow, two less", 0, 0, -1, 1000000001, 999999999, api.OK},
		{"a bit slow, two less again", 0, 0, -1, 1000000002, 1000000000, api.OK},
		{"fast, not yet one more", 7, 3, fast, 16, 12, api.OK},
		{"fast, one more", 7, 3, fast, 17, 14, api.OK},
		{"slow, one later", 7, 3, -fast, 8, 3, api.OK},
		{"slow, one less", 7, 3, -fast, 17, 12, api.OK},
		{"slow, two less", 7, 3, -fast, 18, 12, api.OK},
		{"all counts", 0, 0, 0, most, most, api.OK},
		{"all counts, a bit slow", 0, 0, -1, most, most - 3000000, api.OK},
		{"all counts, a bit slow, just so", 0, 3000000, -1, most, most, api.OK},
		{"all counts, a bit slow, one more", 0, 3000001, -1, most, 0, api.ErrRange},
		{"all counts, a bit fast", 0, 0, 1, most, 0, api.ErrRange},
		{"all counts, slow, just so", 0, 300000000000000, -fast, most, most, api.OK},
		{"all counts, slow, one more", 0, 300000000000001, -fast, most, 0, api.ErrRange},
		{"fast, one less", 0, 0, fast, 2727272727272727, most - 1, api.OK},
		{"fast, just so", 0, 0, fast, 2727272727272728, most, api.OK},
		{"fast, one more", 0, 0, fast, 2727272727272729, 0, api.ErrRange},
		{"just so", 0, 1, 0, most - 1, most, api.OK},
		{"one more", 0, 1, 0, most, 0, api.ErrRange},
		{"MaxTime, at MaxTime", most, most, fast, most, most, api.OK},
		{"MaxTime, one later", most - 1, most, 0, most, 0, api.ErrRange},
		{"MaxTime, one later, a bit slow", most - 1, most, -1, most, most, api.OK},
		{"MaxTime, two later, slow", most - 2, most, -fast, most, 0, api.ErrRange},
	} {
		t.Run(x.name, func(t *testing.T) {
			checkShow(t, api.Out{At: x.at, Show: x.show, Rate: x.rate}, x.next, x.want, x.e)
		})
	}
}

// P9.1: what a clock shows at each of many readings, one after the other, is what is full of the parts that have gone by.
func TestShowCounted(t *testing.T) {
	for _, rate := range []int{-fast, -99999999, -33333333, -1000001, -7, -1, 0, 1, 7, 1000001, 33333333, 99999999, fast} {
		parts := 0
		for count := range 5000 {
			o := api.Out{At: 17, Show: 4, Rate: rate}
			checkShow(t, o, 17+count, 4+parts/api.Billion, api.OK)
			parts += api.Billion + rate
		}
	}
}

// P9.1: I2 as the chapter says it, for a fixed sequence of mixed clocks and readings.
func TestShowMixed(t *testing.T) {
	r := rand.New(rand.NewSource(1))
	seen := map[api.Errno]int{}
	for range 50000 {
		o, at := anyClock(r), anyTime(r)
		want, e := wantShow(o, at)
		checkShow(t, o, at, want, e)
		seen[e]++
	}
	for _, e := range []api.Errno{api.OK, api.ErrOrder, api.ErrRange} {
		if seen[e] < 5000 {
			t.Errorf("only %d results with %d", seen[e], e)
		}
	}
}

// checkGone holds what a clock showed from one reading to a later one against the counts and their part: it is less than one microsecond away.
func checkGone(t *testing.T, o api.Out, from, to int) bool {
	t.Helper()
	before, e := slew.Show(o, from)
	after, f := slew.Show(o, to)
	if e != api.OK || f != api.OK {
		return false
	}
	if after < before {
		t.Errorf("%v shows %d at %d, and %d at %d", o, before, from, after, to)
	}
	away := product(after-before, api.Billion)
	away.Sub(away, product(to-from, api.Billion+o.Rate))
	if away.CmpAbs(number(api.Billion)) >= 0 {
		t.Errorf("%v shows %d at %d, and %d at %d: %d parts away", o, before, from, after, to, away)
	}
	return true
}

// P9.2: clocks do not go back; they go on by the counts and their part, up to one microsecond: at readings that are near, and far away.
func TestNeverBack(t *testing.T) {
	for _, rate := range rates {
		for from := range 60 {
			for to := from; to < 60; to++ {
				checkGone(t, api.Out{At: 0, Show: 5, Rate: rate}, from, to)
			}
		}
	}
	r := rand.New(rand.NewSource(2))
	gone := 0
	for range 50000 {
		o := anyClock(r)
		o.Show >>= r.Intn(20)
		from := o.At + anyUpTo(r, most-o.At)
		if checkGone(t, o, from, from+anyUpTo(r, most-from)) {
			gone++
		}
	}
	if gone < 20000 {
		t.Error("only", gone, "clocks that went on")
	}
}
