package drift_test

import (
	"math"
	"math/big"
	"math/rand"
	"testing"

	"regulator/api"
	"regulator/drift"
)

// stretch is the greatest stretch of counts or of true time, and edge how far from 0 a band may begin.
const (
	stretch = 1000000000000000
	edge    = 1000000
)

// Integers at which something changes, and around them, invalid ones among them.
var (
	rates = []int{
		math.MinInt, -1000000, -2, -1, 0, 1, 2, 3, 1000, 49999, 50000, 50001, 123457, 500000,
		api.MaxRate - 1, api.MaxRate, api.MaxRate + 1, 1000000000, math.MaxInt,
	}
	stretches = []int{
		math.MinInt, -stretch, -2, -1, 0, 1, 2, 3, 7, 998, 999, 1000, 1001, 1002, 1999, 2000, 999999, 1000000, 1000001,
		999999998, 999999999, 1000000000, 1000000001, 1000000002, 999000000000, 1001000000000,
		stretch / 3, stretch / 2, stretch - 1000, stretch - 2, stretch - 1,
		stretch, stretch + 1, 3 * stretch, math.MaxInt,
	}
)

func isRate(x int) bool { return 0 <= x && x <= 1000000 }

func isStretch(x int) bool { return 0 <= x && x <= stretch }

func has(r api.Range, x int) bool { return r.Lo <= x && x <= r.Hi }

// within reports whether b has all integers of a.
func within(a, b api.Range) bool { return b.Lo <= a.Lo && a.Hi <= b.Hi }

// samples goes through rate bounds and stretches: edges, small ones, and a fixed sequence of mixed ones.
func samples(yield func(rate, n int) bool) {
	for _, rate := range rates {
		for _, n := range stretches {
			if isRate(rate) && isStretch(n) && !yield(rate, n) {
				return
			}
		}
	}
	r := rand.New(rand.NewSource(1))
	for range 20000 {
		if !yield(anyRate(r), anyStretch(r)) {
			return
		}
	}
}

// anyRate returns a rate bound of any length in bits.
func anyRate(r *rand.Rand) int { return r.Intn(api.MaxRate+1) >> r.Intn(20) }

// anyStretch returns a stretch of any length in bits.
func anyStretch(r *rand.Rand) int { return r.Intn(stretch+1) >> r.Intn(50) }

// times returns the product of two integers, of any length.
func times(a, b int) *big.Int {
	return new(big.Int).Mul(big.NewInt(int64(a)), big.NewInt(int64(b)))
}

// canCount is the chapter's word: while true time goes on by elapsed, a counter can count so much.
func canCount(rate, count, elapsed int) bool {
	return times(count-1, 1000000000).Cmp(times(elapsed, 1000000000+rate)) < 0 &&
		times(elapsed, 1000000000-rate).Cmp(times(count+1, 1000000000)) < 0
}

// elapsedOf returns what Elapsed says for a rate bound and a stretch.
func elapsedOf(t *testing.T, rate, count int) api.Range {
	t.Helper()
	r, e := drift.Elapsed(rate, count)
	if e != api.OK {
		t.Fatalf("Elapsed(%d, %d) is the error %d", rate, count, e)
	}
	return r
}

// countsOf returns what Counts says for a rate bound and a stretch.
func countsOf(t *testing.T, rate, elapsed int) api.Range {
	t.Helper()
	r, e := drift.Counts(rate, elapsed)
	if e != api.OK {
		t.Fatalf("Counts(%d, %d) is the error %d", rate, elapsed, e)
	}
	return r
}

func checkElapsed(t *testing.T, rate, count int, want api.Range, e api.Errno) {
	t.Helper()
	if r, got := drift.Elapsed(rate, count); r != want || got != e {
		t.Errorf("Elapsed(%d, %d) is %v, %d, not %v, %d", rate, count, r, got, want, e)
	}
}

func checkCounts(t *testing.T, rate, elapsed int, want api.Range, e api.Errno) {
	t.Helper()
	if r, got := drift.Counts(rate, elapsed); r != want || got != e {
		t.Errorf("Counts(%d, %d) is %v, %d, not %v, %d", rate, elapsed, r, got, want, e)
	}
}

// P7.1: the chapter's examples.
func TestExamples(t *testing.T) {
	checkElapsed(t, 0, 7, api.Range{Lo: 7, Hi: 7}, api.OK)
	checkElapsed(t, 50000, 1000000, api.Range{Lo: 999950, Hi: 1000051}, api.OK)
	checkElapsed(t, 1000000, 0, api.Range{Lo: 0, Hi: 1}, api.OK)
	checkCounts(t, 50000, 1000000, api.Range{Lo: 999950, Hi: 1000050}, api.OK)
}

// P7.1: G4 and G5 for values worked out apart from the program.
func TestWorked(t *testing.T) {
	for _, x := range []struct {
		rate, n         int
		elapsed, counts api.Range
	}{
		{0, 0, api.Range{Lo: 0, Hi: 0}, api.Range{Lo: 0, Hi: 0}},
		{1, 0, api.Range{Lo: 0, Hi: 1}, api.Range{Lo: 0, Hi: 0}},
		{0, 1, api.Range{Lo: 1, Hi: 1}, api.Range{Lo: 1, Hi: 1}},
		{1, 1, api.Range{Lo: 1, Hi: 2}, api.Range{Lo: 0, Hi: 2}},
		{1000000, 1, api.Range{Lo: 1, Hi: 2}, api.Range{Lo: 0, Hi: 2}},
		{1000000, 998, api.Range{Lo: 997, Hi: 999}, api.Range{Lo: 997, Hi: 999}},
		{1000000, 1000, api.Range{Lo: 999, Hi: 1002}, api.Range{Lo: 999, Hi: 1001}},
		{1000000, 1002, api.Range{Lo: 1001, Hi: 1004}, api.Range{Lo: 1000, Hi: 1004}},
		{1, 999999998, api.Range{Lo: 999999997, Hi: 999999999}, api.Range{Lo: 999999997, Hi: 999999999}},
		{1, 999999999, api.Range{Lo: 999999998, Hi: 1000000001}, api.Range{Lo: 999999998, Hi: 1000000000}},
		{1, 1000000000, api.Range{Lo: 999999999, Hi: 1000000002}, api.Range{Lo: 999999999, Hi: 1000000001}},
		{1, 1000000002, api.Range{Lo: 1000000001, Hi: 1000000004}, api.Range{Lo: 1000000000, Hi: 1000000004}},
		{0, stretch, api.Range{Lo: stretch, Hi: stretch}, api.Range{Lo: stretch, Hi: stretch}},
		{1, stretch, api.Range{Lo: 999999999000000, Hi: 1000000001000001}, api.Range{Lo: 999999999000000, Hi: 1000000001000000}},
		{1000000, stretch, api.Range{Lo: 999000999000999, Hi: 1001001001001002}, api.Range{Lo: 999000000000000, Hi: 1001000000000000}},
	} {
		checkElapsed(t, x.rate, x.n, x.elapsed, api.OK)
		checkCounts(t, x.rate, x.n, x.counts, api.OK)
	}
}

// P7.1 and P1: G4 and G5 for what is no rate bound or no stretch, with no other result; nothing panics.
func TestNoRateOrStretch(t *testing.T) {
	for _, rate := range rates {
		for _, n := range stretches {
			e := api.OK
			if !isRate(rate) || !isStretch(n) {
				e = api.ErrArg
			}
			a, f := drift.Elapsed(rate, n)
			b, g := drift.Counts(rate, n)
			if f != e || g != e || e != api.OK && (a != api.Range{} || b != api.Range{}) {
				t.Errorf("%d, %d: %v, %d and %v, %d", rate, n, a, f, b, g)
			}
		}
	}
}

// P7.2: Elapsed has exactly the true times, and Counts exactly the counts, for which the counter can count so much: all small ones.
func TestExactSmall(t *testing.T) {
	for _, rate := range rates {
		if !isRate(rate) {
			continue
		}
		for _, base := range []int{0, 970, 500, 1970, 999999980} {
			for count := base; count < base+60; count++ {
				for elapsed := base; elapsed < base+60; elapsed++ {
					can := canCount(rate, count, elapsed)
					if has(elapsedOf(t, rate, count), elapsed) != can {
						t.Errorf("Elapsed(%d, %d) and %d: can is %t", rate, count, elapsed, can)
					}
					if has(countsOf(t, rate, elapsed), count) != can {
						t.Errorf("Counts(%d, %d) and %d: can is %t", rate, elapsed, count, can)
					}
				}
			}
		}
	}
}

// P7.2: the ends of Elapsed and of Counts, and the integers beside them, for all samples.
func TestExactEnds(t *testing.T) {
	for rate, n := range samples {
		e := elapsedOf(t, rate, n)
		if e.Lo < 0 || !canCount(rate, n, e.Lo) || !canCount(rate, n, e.Hi) ||
			e.Lo > 0 && canCount(rate, n, e.Lo-1) || canCount(rate, n, e.Hi+1) {
			t.Errorf("Elapsed(%d, %d) is %v", rate, n, e)
		}
		c := countsOf(t, rate, n)
		if c.Lo < 0 || !canCount(rate, c.Lo, n) || !canCount(rate, c.Hi, n) ||
			c.Lo > 0 && canCount(rate, c.Lo-1, n) || canCount(rate, c.Hi+1, n) {
			t.Errorf("Counts(%d, %d) is %v", rate, n, c)
		}
	}
}

// P7.2: counts that are just possible in a stretch, and those one more or one less; and true times likewise.
func TestExactBothWays(t *testing.T) {
	tried := 0
	for rate, n := range samples {
		c := countsOf(t, rate, n)
		for count := max(c.Lo-1, 0); count <= c.Hi+1; count = next(count, c) {
			if isStretch(count) && has(elapsedOf(t, rate, count), n) != has(c, count) {
				t.Errorf("Counts(%d, %d) is %v, but Elapsed says otherwise of %d", rate, n, c, count)
			}
			tried++
		}
		e := elapsedOf(t, rate, n)
		for elapsed := max(e.Lo-1, 0); elapsed <= e.Hi+1; elapsed = next(elapsed, e) {
			if isStretch(elapsed) && has(countsOf(t, rate, elapsed), n) != has(e, elapsed) {
				t.Errorf("Elapsed(%d, %d) is %v, but Counts says otherwise of %d", rate, n, e, elapsed)
			}
		}
	}
	if tried < 60000 {
		t.Error("only", tried, "counts")
	}
}

// next returns the integer after x, or leaves out what is far from the ends of a range.
func next(x int, r api.Range) int {
	if x < r.Lo+1 || x >= r.Hi-1 {
		return x + 1
	}
	return r.Hi - 1
}

// P7.3: for a greater rate bound, both ranges have what they had.
func TestGreaterRate(t *testing.T) {
	r := rand.New(rand.NewSource(3))
	for rate, n := range samples {
		for _, greater := range []int{rate + 1, rate + 1000, anyRate(r), api.MaxRate} {
			if greater < rate || greater > api.MaxRate {
				continue
			}
			if a, b := elapsedOf(t, rate, n), elapsedOf(t, greater, n); !within(a, b) {
				t.Errorf("Elapsed of %d is %v for %d, but %v for %d", n, a, rate, b, greater)
			}
			if a, b := countsOf(t, rate, n), countsOf(t, greater, n); !within(a, b) {
				t.Errorf("Counts of %d is %v for %d, but %v for %d", n, a, rate, b, greater)
			}
		}
	}
}

// P7.3: for a greater count, or a longer time, no end of a range gets less.
func TestGreaterStretch(t *testing.T) {
	r := rand.New(rand.NewSource(4))
	for rate, n := range samples {
		for _, greater := range []int{n + 1, n + 1000, anyStretch(r), stretch} {
			if greater < n || greater > stretch {
				continue
			}
			if a, b := elapsedOf(t, rate, n), elapsedOf(t, rate, greater); b.Lo < a.Lo || b.Hi < a.Hi {
				t.Errorf("Elapsed for %d is %v of %d, but %v of %d", rate, a, n, b, greater)
			}
			if a, b := countsOf(t, rate, n), countsOf(t, rate, greater); b.Lo < a.Lo || b.Hi < a.Hi {
				t.Errorf("Counts for %d is %v of %d, but %v of %d", rate, a, n, b, greater)
			}
		}
	}
}

// P7.4: with the rate bound 0 the count is the true time.
func TestExactClock(t *testing.T) {
	for _, n := range samples {
		checkElapsed(t, 0, n, api.Range{Lo: n, Hi: n}, api.OK)
		checkCounts(t, 0, n, api.Range{Lo: n, Hi: n}, api.OK)
	}
}

// counter is an oscillator whose rate error does not change: it shows whole counts, and had part parts of 10^9 of the next one at its beginning.
type counter struct{ err, part int }

// reading returns what a counter shows at a true time since its beginning.
func (c counter) reading(at int) int {
	exact := times(at, 1000000000+c.err)
	exact.Add(exact, big.NewInt(int64(c.part)))
	return int(exact.Div(exact, big.NewInt(1000000000)).Int64())
}

// P7.7: whatever a counter does whose rate error is within the bound, between two readings true time goes by as Elapsed says, and it counts as Counts says.
func TestTruth(t *testing.T) {
	r := rand.New(rand.NewSource(7))
	for rate, elapsed := range samples {
		counters := []counter{{rate, 0}, {-rate, 0}, {rate, 999999999}, {-rate, 999999999}}
		for range 4 {
			counters = append(counters, counter{r.Intn(2*rate+1) - rate, r.Intn(1000000000)})
		}
		for _, c := range counters {
			first := r.Intn(1000000000000)
			count := c.reading(first+elapsed) - c.reading(first)
			if !has(countsOf(t, rate, elapsed), count) {
				t.Errorf("%v counted %d, which Counts(%d, %d) does not say", c, count, rate, elapsed)
			}
			if isStretch(count) && !has(elapsedOf(t, rate, count), elapsed) {
				t.Errorf("%v counted for %d, which Elapsed(%d, %d) does not say", c, elapsed, rate, count)
			}
		}
	}
}

// P7.7: the ends of Counts are what some counters count, so that it cannot be narrower.
func TestTruthEnds(t *testing.T) {
	for rate, elapsed := range samples {
		c := countsOf(t, rate, elapsed)
		if count := (counter{-rate, 0}).reading(elapsed); count != c.Lo {
			t.Errorf("a slow one counts %d in %d, not %d", count, elapsed, c.Lo)
		}
		if count := (counter{rate, 999999999}).reading(elapsed); count != c.Hi {
			t.Errorf("a fast one counts %d in %d, not %d", count, elapsed, c.Hi)
		}
	}
}
