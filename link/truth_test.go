package link_test

import (
	"math/rand"
	"testing"

	"regulator/api"
	"regulator/link"
)

// times has some times near a base, from reach before it on, one bit each.
type times struct {
	base int
	bits uint64
}

// reach is how far before its base, and after it, times may begin and end.
const reach = 16

// with returns times with one more, if it is from 0 to MaxTime; or false if it is not.
func (s times) with(x int) (times, bool) {
	if !isTime(x) {
		return s, false
	}
	s.bits |= 1 << (x - s.base + reach)
	return s, true
}

// timesOf returns the times of an interval near a base, or none if it goes beyond the reach.
func timesOf(base int, i api.Interval) times {
	s := times{base: base}
	if i.Lo < base-reach || i.Hi > base+reach {
		return s
	}
	for x := i.Lo; x <= i.Hi; x++ {
		s, _ = s.with(x)
	}
	return s
}

// upTo goes through all ranges of integers from low to high.
func upTo(low, high int) []api.Range {
	var all []api.Range
	for a := low; a <= high; a++ {
		for b := a; b <= high; b++ {
			all = append(all, api.Range{Lo: a, Hi: b})
		}
	}
	return all
}

// shortDelays goes through all delays up to 3 in both directions.
func shortDelays(yield func(api.Change) bool) {
	for _, out := range upTo(0, 3) {
		for _, back := range upTo(0, 3) {
			if !yield(from(9, out.Lo, out.Hi, back.Lo, back.Hi)) {
				return
			}
		}
	}
}

// event is what may have happened: a request that was sent, answered, and whose answer came.
type event struct{ sent, answered, came int }

// events goes through all that may have happened by the bounds of delays and a stamp.
func events(c api.Change, stamp api.Interval) func(yield func(event) bool) {
	return func(yield func(event) bool) {
		for answered := stamp.Lo; answered <= stamp.Hi; answered++ {
			for out := c.OutLo; out <= c.OutHi; out++ {
				for back := c.BackLo; back <= c.BackHi; back++ {
					if !yield(event{answered - out, answered, answered + back}) {
						return
					}
				}
			}
		}
	}
}

// checkTimes holds an interval near a base against the times that are possible: exactly these, or an error if there are none.
func checkTimes(t *testing.T, what string, x answer, i api.Interval, e api.Errno, want times, none api.Errno) {
	t.Helper()
	switch {
	case want.bits == 0 && (e != none || i != api.Interval{}):
		t.Errorf("%s of %v is %v, %d, but there are no times", what, x, i, e)
	case want.bits != 0 && (e != api.OK || timesOf(want.base, i) != want):
		t.Errorf("%s of %v is %v, %d, which has other times", what, x, i, e)
	}
}

// checkEvents holds Sent, Got and Round against all that may have happened.
func checkEvents(t *testing.T, base int, x answer, elapsed []api.Range) {
	t.Helper()
	sent, got := times{base: base}, times{base: base}
	rounds := make([]times, len(elapsed))
	late := false
	for e := range events(x.c, x.stamp) {
		sent, _ = sent.with(e.sent)
		came := true
		got, came = got.with(e.came)
		late = late || !came
		for k, gone := range elapsed {
			rounds[k].base = base
			if gone.Lo <= e.came-e.sent && e.came-e.sent <= gone.Hi {
				rounds[k], _ = rounds[k].with(e.sent)
			}
		}
	}
	i, e := link.Sent(x.c, x.stamp)
	checkTimes(t, "Sent", x, i, e, sent, api.ErrFlow)
	if late {
		// An answer that may come after MaxTime is an error, even if it need not be that late.
		got = times{base: base}
	}
	i, e = link.Got(x.c, x.stamp)
	checkTimes(t, "Got", x, i, e, got, api.ErrRange)
	for k, gone := range elapsed {
		x.elapsed = gone
		i, e = link.Round(x.c, x.stamp, gone)
		checkTimes(t, "Round", x, i, e, rounds[k], api.ErrFlow)
	}
}

// P10.2 and P10.3: all delays up to 3, all short stamps near 0, in between, and near MaxTime, and all that may have gone by: the times of Sent, Got and Round are exactly those of what may have happened.
func TestTimes(t *testing.T) {
	elapsed := append(upTo(0, 7), api.Range{Lo: 0, Hi: most}, api.Range{Lo: 6, Hi: most}, api.Range{Lo: 7, Hi: most}, api.Range{Lo: most, Hi: most})
	stamps := upTo(0, 5)
	for _, base := range []int{0, 1000, most - 5} {
		for c := range shortDelays {
			for _, stamp := range stamps {
				x := answer{c: c, stamp: api.Interval{Lo: base + stamp.Lo, Hi: base + stamp.Hi}}
				checkEvents(t, base, x, elapsed)
			}
		}
	}
}

// oneOf returns an integer of a range, often one of its ends.
func oneOf(r *rand.Rand, low, high int) int {
	switch r.Intn(4) {
	case 0:
		return low
	case 1:
		return high
	}
	return low + r.Intn(high-low+1)
}

func isIn(i api.Interval, x int) bool { return i.Lo <= x && x <= i.Hi }

// anyEvent returns something that may have happened for an answer, or false if its request was sent before time 0.
func anyEvent(r *rand.Rand, x answer) (event, bool) {
	answered := oneOf(r, x.stamp.Lo, x.stamp.Hi)
	e := event{answered - oneOf(r, x.c.OutLo, x.c.OutHi), answered, answered + oneOf(r, x.c.BackLo, x.c.BackHi)}
	return e, e.sent >= 0
}

// anyMeasure returns a range that has what went by in an event.
func anyMeasure(r *rand.Rand, e event) api.Range {
	gone := e.came - e.sent
	return api.Range{Lo: max(0, gone-anyUpTo(r, slow)), Hi: min(gone+anyUpTo(r, slow), most)}
}

// P10.2: whatever the delays are, up to the greatest ones, and whenever it was, the times of Sent, Got and Round have what happened.
func TestTruth(t *testing.T) {
	r := rand.New(rand.NewSource(6))
	happened, late := 0, 0
	for range 100000 {
		x := anyAnswer(r)
		e, ok := anyEvent(r, x)
		if !ok {
			continue
		}
		happened++
		x.elapsed = anyMeasure(r, e)
		if i, f := link.Sent(x.c, x.stamp); f != api.OK || !isIn(i, e.sent) {
			t.Errorf("%v is not in Sent of %v, which is %v, %d", e, x, i, f)
		}
		if i, f := link.Round(x.c, x.stamp, x.elapsed); f != api.OK || !isIn(i, e.sent) {
			t.Errorf("%v is not in Round of %v, which is %v, %d", e, x, i, f)
		}
		i, f := link.Got(x.c, x.stamp)
		if f == api.ErrRange && x.stamp.Hi+x.c.BackHi > most {
			late++
			continue
		}
		if f != api.OK || !isIn(i, e.came) {
			t.Errorf("%v is not in Got of %v, which is %v, %d", e, x, i, f)
		}
	}
	if happened < 50000 || late > happened/2 {
		t.Error("only", happened, "events, and", late, "that may be too late")
	}
}

// possible reports whether some delays, some time of the stamp, and some of what has gone by lead to a time of sending.
func possible(x answer, sent int) bool {
	leastOut, mostOut := max(x.c.OutLo, x.stamp.Lo-sent), min(x.c.OutHi, x.stamp.Hi-sent)
	leastBack, mostBack := max(x.c.BackLo, x.elapsed.Lo-mostOut), min(x.c.BackHi, x.elapsed.Hi-leastOut)
	return sent >= 0 && leastOut <= mostOut && leastBack <= mostBack
}

// P10.3: nothing is wider, up to the greatest delays, and whenever it was: the ends are times of what may have happened, and the times beside them are not.
func TestNothingWider(t *testing.T) {
	r := rand.New(rand.NewSource(7))
	seen := 0
	for range 100000 {
		x := anyAnswer(r)
		if i, e := link.Got(x.c, x.stamp); e == api.OK && (i.Lo != x.stamp.Lo+x.c.BackLo || i.Hi != x.stamp.Hi+x.c.BackHi) {
			t.Errorf("Got of %v is %v", x, i)
		}
		i, e := link.Round(x.c, x.stamp, x.elapsed)
		checkEnds(t, "Round", x, i, e)
		x.elapsed = api.Range{Lo: 0, Hi: most}
		j, f := link.Sent(x.c, x.stamp)
		checkEnds(t, "Sent", x, j, f)
		if e == api.OK && f == api.OK && i != j {
			seen++
		}
	}
	if seen < 10000 {
		t.Error("only", seen, "rounds that are narrower")
	}
}

// checkEnds holds the ends of times of sending against what is possible.
func checkEnds(t *testing.T, what string, x answer, i api.Interval, e api.Errno) {
	t.Helper()
	if e != api.OK {
		return
	}
	if !isInterval(i) || !possible(x, i.Lo) || !possible(x, i.Hi) {
		t.Errorf("%s of %v is %v, which is not possible", what, x, i)
	}
	if possible(x, i.Lo-1) || possible(x, i.Hi+1) {
		t.Errorf("%s of %v is %v, and more is possible", what, x, i)
	}
}

// within reports whether an interval has all times of another one.
func within(wide, narrow api.Interval) bool { return wide.Lo <= narrow.Lo && narrow.Hi <= wide.Hi }

// narrower returns a range within another one, often with an end in common.
func narrower(r *rand.Rand, low, high int) (int, int) {
	a, b := oneOf(r, low, high), oneOf(r, low, high)
	return min(a, b), max(a, b)
}

// checkNarrower holds the times of a narrower answer against those of a wider one.
func checkNarrower(t *testing.T, wide, narrow answer) {
	t.Helper()
	for _, x := range []struct {
		name  string
		times func(x answer) (api.Interval, api.Errno)
	}{
		{"Sent", func(x answer) (api.Interval, api.Errno) { return link.Sent(x.c, x.stamp) }},
		{"Got", func(x answer) (api.Interval, api.Errno) { return link.Got(x.c, x.stamp) }},
		{"Round", func(x answer) (api.Interval, api.Errno) { return link.Round(x.c, x.stamp, x.elapsed) }},
	} {
		a, e := x.times(wide)
		b, f := x.times(narrow)
		// What is too late for wider delays need not be so for narrower ones.
		if f == api.OK && e != api.ErrRange && (e != api.OK || !within(a, b)) {
			t.Errorf("%s of %v is %v, of %v it is %v, %d", x.name, narrow, b, wide, a, e)
		}
	}
}

// P10.4: Round is within Sent; of narrower delays, and of a narrower stamp, all three are within those of before.
func TestNarrower(t *testing.T) {
	r := rand.New(rand.NewSource(8))
	seen := 0
	for range 100000 {
		x := anyAnswer(r)
		sent, e := link.Sent(x.c, x.stamp)
		round, f := link.Round(x.c, x.stamp, x.elapsed)
		if f == api.OK && (e != api.OK || !within(sent, round)) {
			t.Errorf("Round of %v is %v, Sent is %v, %d", x, round, sent, e)
		}
		if f == api.OK {
			seen++
		}
		y, z := x, x
		y.c.OutLo, y.c.OutHi = narrower(r, x.c.OutLo, x.c.OutHi)
		y.c.BackLo, y.c.BackHi = narrower(r, x.c.BackLo, x.c.BackHi)
		checkNarrower(t, x, y)
		z.stamp.Lo, z.stamp.Hi = narrower(r, x.stamp.Lo, x.stamp.Hi)
		checkNarrower(t, x, z)
		y.stamp = z.stamp
		checkNarrower(t, x, y)
	}
	if seen < 30000 {
		t.Error("only", seen, "rounds")
	}
}

// P10.5: if no end is cut, Sent is as wide as the stamp and the delay out may vary together, and Got as the stamp and the delay back.
func TestWidths(t *testing.T) {
	r := rand.New(rand.NewSource(9))
	whole := 0
	for range 100000 {
		x := anyAnswer(r)
		width := x.stamp.Hi - x.stamp.Lo
		if i, e := link.Got(x.c, x.stamp); e == api.OK && i.Hi-i.Lo != width+x.c.BackHi-x.c.BackLo {
			t.Errorf("Got of %v is %v", x, i)
		}
		i, e := link.Sent(x.c, x.stamp)
		if e != api.OK {
			continue
		}
		cut := max(0, x.c.OutHi-x.stamp.Lo)
		if i.Hi-i.Lo != width+x.c.OutHi-x.c.OutLo-cut {
			t.Errorf("Sent of %v is %v", x, i)
		}
		if cut == 0 {
			whole++
		}
	}
	if whole < 30000 {
		t.Error("only", whole, "times that are not cut")
	}
}

// P10.6 and P10.2: a request that is answered while delays change has been sent at a time of Sent of the bounds of the interval in which this was.
func TestBoundsOfAnswers(t *testing.T) {
	r := rand.New(rand.NewSource(10))
	for range 20000 {
		l, i, bounds := anyBounds(t, r)
		at := oneOf(r, i.Lo, i.Hi)
		c := inForceAt(l, at)
		answered := at + oneOf(r, c.OutLo, c.OutHi)
		if answered > most {
			continue
		}
		stamp := api.Interval{Lo: max(0, answered-r.Intn(1000)), Hi: min(answered+r.Intn(1000), most)}
		if sent, e := link.Sent(bounds, stamp); e != api.OK || !isIn(sent, at) {
			t.Errorf("a request at %d, answered in %v, is not in %v, %d", at, stamp, sent, e)
		}
	}
}
