package belief_test

import (
	"math/big"
	"math/rand"
	"testing"

	"regulator/api"
	"regulator/belief"
)

// times returns the product of two integers, of any length.
func times(a, b int) *big.Int {
	return new(big.Int).Mul(big.NewInt(int64(a)), big.NewInt(int64(b)))
}

// canCount is layer 7's word: while true time goes on by elapsed, a counter can count so much.
func canCount(rate, count, elapsed int) bool {
	return elapsed >= 0 && times(count-1, api.Billion).Cmp(times(elapsed, api.Billion+rate)) < 0 &&
		times(elapsed, api.Billion-rate).Cmp(times(count+1, api.Billion)) < 0
}

// canBe reports whether true time can be x after a counter counted, if it was in a short interval before.
func canBe(i api.Interval, rate, count, x int) bool {
	for before := i.Lo; before <= i.Hi; before++ {
		if canCount(rate, count, x-before) {
			return true
		}
	}
	return false
}

// carriedOn returns what Advance makes of a belief.
func carriedOn(t *testing.T, b api.Belief, rate, at int) api.Belief {
	t.Helper()
	next, e := belief.Advance(b, rate, at)
	if e != api.OK {
		t.Fatalf("Advance(%v, %d, %d) is the error %d", b, rate, at, e)
	}
	return next
}

// carry is a belief that is carried on by count.
type carry struct {
	b           api.Belief
	rate, count int
}

// carries goes through beliefs that can be carried on: those of edges, and a fixed sequence of mixed ones.
func carries(yield func(carry) bool) {
	counts := []int{0, 1, 2, 3, 999, 1000, 1001, 1000000, stretch - 1, stretch}
	for _, rate := range rates {
		for _, count := range counts {
			for i := range intervals {
				if isRate(rate) && !yield(carry{api.Belief{At: 7, I: i}, rate, count}) {
					return
				}
			}
		}
	}
	r := rand.New(rand.NewSource(1))
	for range 20000 {
		count := anyStretch(r)
		if !yield(carry{api.Belief{At: r.Intn(most - count + 1), I: anyInterval(r)}, anyRate(r), count}) {
			return
		}
	}
}

// P8.1: H2 for values worked out apart from the program: at the reading of the belief, after it, and with ends that reach MaxTime just so, or are cut there.
func TestCarriedWorked(t *testing.T) {
	for _, x := range []struct {
		name       string
		at, lo, hi int
		rate, next int
		want       api.Interval
	}{
		{"same reading, exact", 5, 100, 200, 0, 5, api.Interval{Lo: 100, Hi: 200}},
		{"same reading", 5, 100, 200, 1, 5, api.Interval{Lo: 100, Hi: 201}},
		{"same reading, greatest rate bound", 5, 100, 200, 1000000, 5, api.Interval{Lo: 100, Hi: 201}},
		{"same reading 0", 0, 0, 0, 0, 0, api.Interval{Lo: 0, Hi: 0}},
		{"same reading MaxTime", most, 0, 0, 1000000, most, api.Interval{Lo: 0, Hi: 1}},
		{"same reading, all times", 5, 0, most, 1, 5, api.Interval{Lo: 0, Hi: most}},
		{"same reading, MaxTime alone", 5, most, most, 1, 5, api.Interval{Lo: most, Hi: most}},
		{"one more, exact", 5, 100, 200, 0, 6, api.Interval{Lo: 101, Hi: 201}},
		{"one more", 5, 100, 200, 1, 6, api.Interval{Lo: 101, Hi: 202}},
		{"one time alone", 5, 100, 100, 50000, 1000005, api.Interval{Lo: 1000050, Hi: 1000151}},
		{"greatest rate bound", 5, 100, 200, 1000000, 1005, api.Interval{Lo: 1099, Hi: 1202}},
		{"all times, exact", 0, 0, most, 0, 5, api.Interval{Lo: 5, Hi: most}},
		{"greatest count, exact", 7, 100, 200, 0, stretch + 7, api.Interval{Lo: stretch + 100, Hi: stretch + 200}},
		{"greatest count", 0, 100, 200, 1000000, stretch, api.Interval{Lo: 999000999001099, Hi: 1001001001001202}},
		{"greatest count up to MaxTime", most - stretch, 0, 9, 0, most, api.Interval{Lo: stretch, Hi: stretch + 9}},
		{"greatest count, up to MaxTime just so", 0, 5, most - stretch, 0, stretch, api.Interval{Lo: stretch + 5, Hi: most}},
		{"exact, Hi just so", 0, most - 10, most - 5, 0, 5, api.Interval{Lo: most - 5, Hi: most}},
		{"exact, Hi cut by one", 0, most - 10, most - 5, 0, 6, api.Interval{Lo: most - 4, Hi: most}},
		{"exact, Hi cut, Lo just so", 0, most - 10, most - 5, 0, 10, api.Interval{Lo: most, Hi: most}},
		{"exact, both cut", 0, most - 10, most - 5, 0, 11, api.Interval{Lo: most, Hi: most}},
		{"Hi one less", 5, 0, most - 1000052, 50000, 1000005, api.Interval{Lo: 999950, Hi: most - 1}},
		{"Hi just so", 5, 0, most - 1000051, 50000, 1000005, api.Interval{Lo: 999950, Hi: most}},
		{"Hi cut by one", 5, 0, most - 1000050, 50000, 1000005, api.Interval{Lo: 999950, Hi: most}},
		{"Hi cut, Lo one less", 5, most - 999951, most, 50000, 1000005, api.Interval{Lo: most - 1, Hi: most}},
		{"Hi cut, Lo just so", 5, most - 999950, most, 50000, 1000005, api.Interval{Lo: most, Hi: most}},
		{"both cut by more", 5, most - 999949, most - 999949, 50000, 1000005, api.Interval{Lo: most, Hi: most}},
		{"both cut, by a stretch", 0, most, most, 1000000, stretch, api.Interval{Lo: most, Hi: most}},
	} {
		t.Run(x.name, func(t *testing.T) {
			b := api.Belief{At: x.at, I: api.Interval{Lo: x.lo, Hi: x.hi}}
			checkAt(t, b, x.rate, x.next, x.want, api.OK)
		})
	}
}

// P8.1: H2 and H3 as the chapter says them.
func TestCarried(t *testing.T) {
	for c := range carries {
		want, _ := wantAt(c.b, c.rate, c.b.At+c.count)
		checkAt(t, c.b, c.rate, c.b.At+c.count, want, api.OK)
	}
}

// checkExact holds a belief with a short interval that is carried on against each time where true time can be then. What can only be after MaxTime is cut to it.
func checkExact(t *testing.T, b api.Belief, rate, count int) {
	t.Helper()
	next := carriedOn(t, b, rate, b.At+count)
	over := false
	for x := b.I.Lo; x <= b.I.Hi+count+3; x++ {
		can := canBe(b.I, rate, count, x)
		if x < most && has(next.I, x) != can {
			t.Errorf("%v after %d counts with %d is %v, but true time can be %d: %t", b, count, rate, next, x, can)
		}
		over = over || can && x >= most
	}
	if has(next.I, most) != over {
		t.Errorf("%v after %d counts with %d is %v, but true time can be up to MaxTime: %t", b, count, rate, next, over)
	}
}

// P8.2 and P8.3: the interval that is carried on has exactly the times where true time can be: small ones, and those near MaxTime.
func TestExact(t *testing.T) {
	for _, rate := range rates {
		if !isRate(rate) {
			continue
		}
		for count := range 9 {
			for width := range 5 {
				for _, lo := range []int{0, 1, 100, most - 12, most - 8, most - 7, most - 5, most - 4} {
					checkExact(t, api.Belief{At: 3, I: api.Interval{Lo: lo, Hi: lo + width}}, rate, count)
				}
			}
		}
		for _, count := range []int{999, 1000, 1001, 2000} {
			for _, hi := range []int{1005, most - count - 3, most - count - 1, most - count, most - count + 1, most - 2} {
				checkExact(t, api.Belief{At: 3, I: api.Interval{Lo: hi - 2, Hi: hi}}, rate, count)
			}
		}
	}
}

// P8.3: each end below MaxTime is where true time can be, and no time before Lo or after Hi is, for all beliefs.
func TestEnds(t *testing.T) {
	below := 0
	for c := range carries {
		b := c.b
		next := carriedOn(t, b, c.rate, b.At+c.count)
		// True time is the least one if it was Lo, and went on by the least that it can, and the greatest one likewise.
		if next.I.Lo < most && !canCount(c.rate, c.count, next.I.Lo-b.I.Lo) {
			t.Errorf("%v: true time cannot be as early as in %v", c, next)
		}
		if next.I.Hi < most && !canCount(c.rate, c.count, next.I.Hi-b.I.Hi) {
			t.Errorf("%v: true time cannot be as late as in %v", c, next)
		}
		if canCount(c.rate, c.count, next.I.Lo-1-b.I.Lo) {
			t.Errorf("%v: true time can be earlier than in %v", c, next)
		}
		if next.I.Hi < most && canCount(c.rate, c.count, next.I.Hi+1-b.I.Hi) {
			t.Errorf("%v: true time can be later than in %v", c, next)
		}
		if next.I.Lo < most && next.I.Hi < most {
			below++
		}
	}
	if below < 3000 {
		t.Error("only", below, "beliefs whose ends are both below MaxTime")
	}
}

// counter is an oscillator whose rate error does not change: it shows whole counts, from first on, and had part parts of 10^9 of the next one at the true time since.
type counter struct{ err, part, first, since int }

// reading returns what a counter shows at a true time.
func (c counter) reading(at int) int {
	exact := times(at-c.since, api.Billion+c.err)
	exact.Add(exact, big.NewInt(int64(c.part)))
	return c.first + int(exact.Div(exact, big.NewInt(api.Billion)).Int64())
}

// anyCounter returns a counter within a rate bound, often one that is as wrong as it may be, or shows its next count at once.
func anyCounter(r *rand.Rand, rate, since int) counter {
	errs := []int{rate, -rate, r.Intn(2*rate+1) - rate}
	parts := []int{0, api.Billion - 1, r.Intn(api.Billion)}
	return counter{errs[r.Intn(3)], parts[r.Intn(3)], r.Intn(1000000), since}
}

// around returns a valid interval that has a time.
func around(r *rand.Rand, x int) api.Interval {
	return api.Interval{Lo: max(x-anyStretch(r), 0), Hi: min(x+anyStretch(r), most)}
}

// P8.2: whatever a counter does whose rate error is within the bound, true time stays in the interval, up to MaxTime itself.
func TestTruth(t *testing.T) {
	r := rand.New(rand.NewSource(2))
	for k := range 50000 {
		rate := anyRate(r)
		elapsed := anyStretch(r) * 99 / 100
		now := r.Intn(most - elapsed + 1)
		if k%4 == 0 {
			now = most - elapsed
		}
		c := anyCounter(r, rate, now)
		i := around(r, now)
		switch k % 3 {
		case 0:
			i.Lo = now
		case 1:
			i.Hi = now
		}
		b := api.Belief{At: c.reading(now), I: i}
		if next := carriedOn(t, b, rate, c.reading(now+elapsed)); !has(next.I, now+elapsed) {
			t.Fatalf("%v with %d, and %v: true time was %d, and is %d, which %v has not", b, rate, c, now, now+elapsed, next)
		}
	}
}

// P8.2 and P8.6: true time stays in an interval that is carried on, and met with others that have it, again and again.
func TestTruthInManySteps(t *testing.T) {
	r := rand.New(rand.NewSource(3))
	for range 300 {
		rate := anyRate(r)
		now := r.Intn(most / 3)
		c := anyCounter(r, rate, now)
		b, e := belief.Start(c.reading(now))
		for range 60 {
			ok := true
			if r.Intn(2) == 0 {
				now += anyStretch(r) >> 8
				b = carriedOn(t, b, rate, c.reading(now))
			} else {
				b, ok, e = belief.Meet(b, around(r, now))
			}
			if !ok || e != api.OK || !has(b.I, now) {
				t.Fatalf("%v, %t, %d has no true time %d, with %d, by %v", b, ok, e, now, rate, c)
			}
		}
	}
}

// P8.4: with the rate bound 0 two steps are one; with any rate bound Hi is not less in two steps.
func TestSteps(t *testing.T) {
	r := rand.New(rand.NewSource(4))
	for c := range carries {
		at := c.b.At + c.count
		for _, first := range []int{0, min(1, c.count), c.count / 2, r.Intn(c.count + 1), c.count} {
			exact := carriedOn(t, c.b, 0, at)
			if two := carriedOn(t, carriedOn(t, c.b, 0, c.b.At+first), 0, at); two != exact {
				t.Errorf("%v: exact, it is %v, but with a step of %d it is %v", c, exact, first, two)
			}
			one := carriedOn(t, c.b, c.rate, at)
			if two := carriedOn(t, carriedOn(t, c.b, c.rate, c.b.At+first), c.rate, at); two.I.Hi < one.I.Hi {
				t.Errorf("%v: in one step it is %v, but with a step of %d it is %v", c, one, first, two)
			}
		}
	}
}

// P8.5: a belief with a wider interval, and a greater rate bound, later has all times that it has otherwise.
func TestWider(t *testing.T) {
	r := rand.New(rand.NewSource(5))
	for c := range carries {
		at := c.b.At + c.count
		narrow := carriedOn(t, c.b, c.rate, at)
		wide := api.Interval{Lo: c.b.I.Lo - r.Intn(c.b.I.Lo+1), Hi: c.b.I.Hi + r.Intn(most-c.b.I.Hi+1)}
		next := api.Interval{Lo: max(c.b.I.Lo-1, 0), Hi: min(c.b.I.Hi+1, most)}
		for _, i := range []api.Interval{c.b.I, wide, next, {Lo: 0, Hi: most}} {
			for _, rate := range []int{c.rate, min(c.rate+1, api.MaxRate), c.rate + r.Intn(api.MaxRate-c.rate+1), api.MaxRate} {
				later := carriedOn(t, api.Belief{At: c.b.At, I: i}, rate, at)
				if !within(narrow.I, later.I) {
					t.Errorf("%v: it is %v, but from %v on, with %d, it is %v", c, narrow, i, rate, later)
				}
			}
		}
	}
}
