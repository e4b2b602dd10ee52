package link_test

import (
	"math"
	"math/rand"
	"testing"

	"regulator/api"
	"regulator/link"
)

// answer is what is known of a request that was answered: delays, a stamp, and what had gone by when the answer came.
type answer struct {
	c       api.Change
	stamp   api.Interval
	elapsed api.Range
}

// isElapsed is what the chapter says of what has gone by.
func isElapsed(r api.Range) bool { return 0 <= r.Lo && r.Lo <= r.Hi && r.Hi <= 3000000000000000 }

// wantSent is J3 as the chapter says it.
func wantSent(x answer) (api.Interval, api.Errno) {
	if !isDelays(x.c) || !isInterval(x.stamp) {
		return api.Interval{}, api.ErrArg
	}
	low, high := x.stamp.Lo-x.c.OutHi, x.stamp.Hi-x.c.OutLo
	if low < 0 {
		low = 0
	}
	if high < 0 {
		return api.Interval{}, api.ErrFlow
	}
	return api.Interval{Lo: low, Hi: high}, api.OK
}

// wantGot is J4 as the chapter says it.
func wantGot(x answer) (api.Interval, api.Errno) {
	if !isDelays(x.c) || !isInterval(x.stamp) {
		return api.Interval{}, api.ErrArg
	}
	got := api.Interval{Lo: x.stamp.Lo + x.c.BackLo, Hi: x.stamp.Hi + x.c.BackHi}
	if got.Hi > 3000000000000000 {
		return api.Interval{}, api.ErrRange
	}
	return got, api.OK
}

// wantRound is J5 as the chapter says it.
func wantRound(x answer) (api.Interval, api.Errno) {
	if !isDelays(x.c) || !isInterval(x.stamp) || !isElapsed(x.elapsed) {
		return api.Interval{}, api.ErrArg
	}
	if x.c.OutLo+x.c.BackLo > x.elapsed.Hi || x.c.OutHi+x.c.BackHi < x.elapsed.Lo {
		return api.Interval{}, api.ErrFlow
	}
	lesser, greater := x.c.OutHi, x.c.OutLo
	if x.elapsed.Hi-x.c.BackLo < lesser {
		lesser = x.elapsed.Hi - x.c.BackLo
	}
	if x.elapsed.Lo-x.c.BackHi > greater {
		greater = x.elapsed.Lo - x.c.BackHi
	}
	low, high := x.stamp.Lo-lesser, x.stamp.Hi-greater
	if low < 0 {
		low = 0
	}
	if high < 0 {
		return api.Interval{}, api.ErrFlow
	}
	return api.Interval{Lo: low, Hi: high}, api.OK
}

func checkSent(t *testing.T, x answer, want api.Interval, e api.Errno) {
	t.Helper()
	if got, f := link.Sent(x.c, x.stamp); got != want || f != e {
		t.Errorf("Sent(%v, %v) is %v, %d, not %v, %d", x.c, x.stamp, got, f, want, e)
	}
}

func checkGot(t *testing.T, x answer, want api.Interval, e api.Errno) {
	t.Helper()
	if got, f := link.Got(x.c, x.stamp); got != want || f != e {
		t.Errorf("Got(%v, %v) is %v, %d, not %v, %d", x.c, x.stamp, got, f, want, e)
	}
}

func checkRound(t *testing.T, x answer, want api.Interval, e api.Errno) {
	t.Helper()
	if got, f := link.Round(x.c, x.stamp, x.elapsed); got != want || f != e {
		t.Errorf("Round(%v, %v, %v) is %v, %d, not %v, %d", x.c, x.stamp, x.elapsed, got, f, want, e)
	}
}

// checkAnswer holds all three functions against the chapter, and returns their errors.
func checkAnswer(t *testing.T, x answer) [3]api.Errno {
	t.Helper()
	sent, e := wantSent(x)
	checkSent(t, x, sent, e)
	got, f := wantGot(x)
	checkGot(t, x, got, f)
	round, g := wantRound(x)
	checkRound(t, x, round, g)
	return [3]api.Errno{e, f, g}
}

// anyElapsed returns what may have gone by for an answer, most often something that its delays allow, or nearly so.
func anyElapsed(r *rand.Rand, c api.Change) api.Range {
	least, greatest := c.OutLo+c.BackLo, c.OutHi+c.BackHi
	near := []int{least, greatest, c.OutHi + c.BackLo, c.OutLo + c.BackHi, least + r.Intn(greatest-least+1), anyTime(r)}
	a, b := near[r.Intn(6)]+r.Intn(5)-2, near[r.Intn(6)]+r.Intn(5)-2
	return api.Range{Lo: min(max(min(a, b), 0), most), Hi: min(max(a, b, 0), most)}
}

// anyStamp returns a stamp, most often one near the times at which something is cut for delays.
func anyStamp(r *rand.Rand, c api.Change) api.Interval {
	near := []int{c.OutLo, c.OutHi, most - c.BackLo, most - c.BackHi, r.Intn(2 * slow), anyTime(r)}
	a, b := near[r.Intn(6)]+r.Intn(5)-2, near[r.Intn(6)]+r.Intn(5)-2
	return api.Interval{Lo: min(max(min(a, b), 0), most), Hi: min(max(a, b, 0), most)}
}

// anyAnswer returns an answer with well-formed delays, a valid stamp, and what may have gone by.
func anyAnswer(r *rand.Rand) answer {
	c := anyChange(r)
	c.At = anyTime(r)
	return answer{c, anyStamp(r, c), anyElapsed(r, c)}
}

// P10.1: the chapter's examples.
func TestExamples(t *testing.T) {
	x := answer{from(0, 100, 300, 50, 90), api.Interval{Lo: 1000, Hi: 1010}, api.Range{Lo: 160, Hi: 200}}
	checkSent(t, x, api.Interval{Lo: 700, Hi: 910}, api.OK)
	checkGot(t, x, api.Interval{Lo: 1050, Hi: 1100}, api.OK)
	checkRound(t, x, api.Interval{Lo: 850, Hi: 910}, api.OK)
}

// P10.1: J3 to J5 for all edges of delays; their At plays no part.
func TestDelaysOfAnswers(t *testing.T) {
	for c := range anyDelays {
		for _, c.At = range []int{0, 5, -1, most + 1, math.MinInt, math.MaxInt} {
			x := answer{c, api.Interval{Lo: 1500000, Hi: 1500010}, api.Range{Lo: 0, Hi: most}}
			e := checkAnswer(t, x)
			if want := map[bool]api.Errno{true: api.OK, false: api.ErrArg}[isDelays(c)]; e != [3]api.Errno{want, want, want} {
				t.Errorf("the errors of %v are %v", c, e)
			}
		}
	}
}

// P10.1 and P1: J3 to J5 for all edges of stamps and of what has gone by, right ones and wrong ones; nothing panics.
func TestEdges(t *testing.T) {
	seen := map[[3]api.Errno]int{}
	for _, c := range []api.Change{{}, from(7, 100, 300, 50, 90), from(0, 0, slow, 0, slow), from(0, slow, slow, slow, slow), from(0, 2, 1, 0, 0), from(0, 0, 0, -1, 0)} {
		for stamp := range anyIntervals {
			for elapsed := range anyIntervals {
				seen[checkAnswer(t, answer{c, stamp, api.Range(elapsed)})]++
			}
		}
	}
	// Of 64 intervals 54 are not valid, and neither are 2 of the 6 delays.
	if n := seen[[3]api.Errno{api.ErrArg, api.ErrArg, api.ErrArg}]; n != 2*64*64+4*54*64 {
		t.Errorf("%d results with a wrong argument", n)
	}
	for _, e := range [][3]api.Errno{
		{api.OK, api.OK, api.OK}, {api.OK, api.OK, api.ErrFlow}, {api.OK, api.OK, api.ErrArg},
		{api.OK, api.ErrRange, api.OK}, {api.OK, api.ErrRange, api.ErrFlow}, {api.OK, api.ErrRange, api.ErrArg},
		{api.ErrFlow, api.OK, api.ErrFlow}, {api.ErrFlow, api.OK, api.ErrArg},
	} {
		if seen[e] == 0 {
			t.Errorf("no results with %v", e)
		}
	}
}

// P10.1: J3, where its lower end is cut, and its upper end is 0, or negative.
func TestSent(t *testing.T) {
	c := from(0, 100, 300, 50, 90)
	for _, x := range []struct {
		name string
		c    api.Change
		i    api.Interval
		want api.Interval
		e    api.Errno
	}{
		{"lower end 1", c, api.Interval{Lo: 301, Hi: 310}, api.Interval{Lo: 1, Hi: 210}, api.OK},
		{"lower end 0", c, api.Interval{Lo: 300, Hi: 310}, api.Interval{Lo: 0, Hi: 210}, api.OK},
		{"lower end cut", c, api.Interval{Lo: 299, Hi: 310}, api.Interval{Lo: 0, Hi: 210}, api.OK},
		{"lower end cut far", c, api.Interval{Lo: 0, Hi: 310}, api.Interval{Lo: 0, Hi: 210}, api.OK},
		{"upper end 1", c, api.Interval{Lo: 50, Hi: 101}, api.Interval{Lo: 0, Hi: 1}, api.OK},
		{"upper end 0", c, api.Interval{Lo: 100, Hi: 100}, api.Interval{Lo: 0, Hi: 0}, api.OK},
		{"upper end -1", c, api.Interval{Lo: 99, Hi: 99}, api.Interval{}, api.ErrFlow},
		{"upper end -1 of a wide stamp", c, api.Interval{Lo: 0, Hi: 99}, api.Interval{}, api.ErrFlow},
		{"upper end -100", c, api.Interval{}, api.Interval{}, api.ErrFlow},
		{"one delay", from(0, 7, 7, 0, 0), api.Interval{Lo: 10, Hi: 20}, api.Interval{Lo: 3, Hi: 13}, api.OK},
		{"no delay", api.Change{}, api.Interval{}, api.Interval{}, api.OK},
		{"no delay at MaxTime", api.Change{}, api.Interval{Lo: most, Hi: most}, api.Interval{Lo: most, Hi: most}, api.OK},
		{"all times", from(0, 0, slow, 0, slow), api.Interval{Lo: 0, Hi: most}, api.Interval{Lo: 0, Hi: most}, api.OK},
		{"greatest delay", from(0, slow, slow, 0, 0), api.Interval{Lo: slow, Hi: slow}, api.Interval{}, api.OK},
		{"greatest delay, too early", from(0, slow, slow, 0, 0), api.Interval{Lo: 0, Hi: slow - 1}, api.Interval{}, api.ErrFlow},
	} {
		t.Run(x.name, func(t *testing.T) { checkSent(t, answer{c: x.c, stamp: x.i}, x.want, x.e) })
	}
}

// P10.1: J4, where its upper end is MaxTime, or one more.
func TestGot(t *testing.T) {
	c := from(0, 100, 300, 50, 90)
	for _, x := range []struct {
		name string
		c    api.Change
		i    api.Interval
		want api.Interval
		e    api.Errno
	}{
		{"from 0 on", c, api.Interval{}, api.Interval{Lo: 50, Hi: 90}, api.OK},
		{"no delay", api.Change{}, api.Interval{}, api.Interval{}, api.OK},
		{"no delay, all times", from(0, 1, 2, 0, 0), api.Interval{Lo: 0, Hi: most}, api.Interval{Lo: 0, Hi: most}, api.OK},
		{"no delay at MaxTime", api.Change{}, api.Interval{Lo: most, Hi: most}, api.Interval{Lo: most, Hi: most}, api.OK},
		{"one short of MaxTime", c, api.Interval{Lo: 5, Hi: most - 91}, api.Interval{Lo: 55, Hi: most - 1}, api.OK},
		{"MaxTime", c, api.Interval{Lo: 5, Hi: most - 90}, api.Interval{Lo: 55, Hi: most}, api.OK},
		{"MaxTime, from near it", c, api.Interval{Lo: most - 90, Hi: most - 90}, api.Interval{Lo: most - 40, Hi: most}, api.OK},
		{"one more", c, api.Interval{Lo: 5, Hi: most - 89}, api.Interval{}, api.ErrRange},
		{"one more, only with the greatest delay", c, api.Interval{Lo: most - 89, Hi: most - 89}, api.Interval{}, api.ErrRange},
		{"all times", c, api.Interval{Lo: 0, Hi: most}, api.Interval{}, api.ErrRange},
		{"greatest delay", from(0, 0, 0, slow, slow), api.Interval{Lo: 0, Hi: most - slow}, api.Interval{Lo: slow, Hi: most}, api.OK},
		{"greatest delay, too late", from(0, 0, 0, slow, slow), api.Interval{Lo: 0, Hi: most - slow + 1}, api.Interval{}, api.ErrRange},
	} {
		t.Run(x.name, func(t *testing.T) { checkGot(t, answer{c: x.c, stamp: x.i}, x.want, x.e) })
	}
}

// P10.1: J5, where what has gone by just matters, just does not, is just reached, and is one beyond.
func TestRound(t *testing.T) {
	c, i := from(0, 100, 300, 50, 90), api.Interval{Lo: 1000, Hi: 1010}
	for _, x := range []struct {
		name    string
		stamp   api.Interval
		elapsed api.Range
		want    api.Interval
		e       api.Errno
	}{
		{"anything", i, api.Range{Lo: 0, Hi: most}, api.Interval{Lo: 700, Hi: 910}, api.OK},
		{"all that is possible", i, api.Range{Lo: 150, Hi: 390}, api.Interval{Lo: 700, Hi: 910}, api.OK},
		{"the lesser ones are equal", i, api.Range{Lo: 0, Hi: 350}, api.Interval{Lo: 700, Hi: 910}, api.OK},
		{"the lesser one is one more", i, api.Range{Lo: 0, Hi: 351}, api.Interval{Lo: 700, Hi: 910}, api.OK},
		{"the lesser one is one less", i, api.Range{Lo: 0, Hi: 349}, api.Interval{Lo: 701, Hi: 910}, api.OK},
		{"the greater ones are equal", i, api.Range{Lo: 190, Hi: most}, api.Interval{Lo: 700, Hi: 910}, api.OK},
		{"the greater one is one less", i, api.Range{Lo: 189, Hi: most}, api.Interval{Lo: 700, Hi: 910}, api.OK},
		{"the greater one is one more", i, api.Range{Lo: 191, Hi: most}, api.Interval{Lo: 700, Hi: 909}, api.OK},
		{"both matter", i, api.Range{Lo: 250, Hi: 260}, api.Interval{Lo: 790, Hi: 850}, api.OK},
		{"exactly known", i, api.Range{Lo: 250, Hi: 250}, api.Interval{Lo: 800, Hi: 850}, api.OK},
		{"just the least delays", i, api.Range{Lo: 0, Hi: 150}, api.Interval{Lo: 900, Hi: 910}, api.OK},
		{"exactly the least delays", i, api.Range{Lo: 150, Hi: 150}, api.Interval{Lo: 900, Hi: 910}, api.OK},
		{"less than the least delays", i, api.Range{Lo: 0, Hi: 149}, api.Interval{}, api.ErrFlow},
		{"just the greatest delays", i, api.Range{Lo: 390, Hi: most}, api.Interval{Lo: 700, Hi: 710}, api.OK},
		{"exactly the greatest delays", i, api.Range{Lo: 390, Hi: 390}, api.Interval{Lo: 700, Hi: 710}, api.OK},
		{"more than the greatest delays", i, api.Range{Lo: 391, Hi: most}, api.Interval{}, api.ErrFlow},
		{"nothing", i, api.Range{}, api.Interval{}, api.ErrFlow},
		{"everything", i, api.Range{Lo: most, Hi: most}, api.Interval{}, api.ErrFlow},
		{"below 0", i, api.Range{Lo: -1, Hi: 200}, api.Interval{}, api.ErrArg},
		{"both below 0", i, api.Range{Lo: -2, Hi: -1}, api.Interval{}, api.ErrArg},
		{"the wrong way round", i, api.Range{Lo: 201, Hi: 200}, api.Interval{}, api.ErrArg},
		{"up to MaxTime", i, api.Range{Lo: 160, Hi: most}, api.Interval{Lo: 700, Hi: 910}, api.OK},
		{"up to one more", i, api.Range{Lo: 160, Hi: most + 1}, api.Interval{}, api.ErrArg},
		{"lower end 0", api.Interval{Lo: 150, Hi: 400}, api.Range{Lo: 0, Hi: 200}, api.Interval{Lo: 0, Hi: 300}, api.OK},
		{"lower end 1", api.Interval{Lo: 151, Hi: 400}, api.Range{Lo: 0, Hi: 200}, api.Interval{Lo: 1, Hi: 300}, api.OK},
		{"lower end cut", api.Interval{Lo: 149, Hi: 400}, api.Range{Lo: 0, Hi: 200}, api.Interval{Lo: 0, Hi: 300}, api.OK},
		{"upper end 1", api.Interval{Lo: 0, Hi: 161}, api.Range{Lo: 250, Hi: 260}, api.Interval{Lo: 0, Hi: 1}, api.OK},
		{"upper end 0", api.Interval{Lo: 0, Hi: 160}, api.Range{Lo: 250, Hi: 260}, api.Interval{}, api.OK},
		{"upper end -1", api.Interval{Lo: 0, Hi: 159}, api.Range{Lo: 250, Hi: 260}, api.Interval{}, api.ErrFlow},
		{"upper end -1, although Sent has none", api.Interval{Lo: 299, Hi: 299}, api.Range{Lo: 390, Hi: 390}, api.Interval{}, api.ErrFlow},
		{"stamp at MaxTime", api.Interval{Lo: most, Hi: most}, api.Range{Lo: 160, Hi: 200}, api.Interval{Lo: most - 150, Hi: most - 100}, api.OK},
		{"stamp after MaxTime", api.Interval{Lo: most, Hi: most + 1}, api.Range{Lo: 160, Hi: 200}, api.Interval{}, api.ErrArg},
	} {
		t.Run(x.name, func(t *testing.T) { checkRound(t, answer{c, x.stamp, x.elapsed}, x.want, x.e) })
	}
}

// P1: ErrArg hides the errors that come later.
func TestErrorOrder(t *testing.T) {
	bad, good := from(0, 300, 299, 50, 90), from(0, 300, 300, 50, 90)
	early, late := api.Interval{Lo: 0, Hi: 299}, api.Interval{Lo: 0, Hi: most}
	all := api.Range{Lo: 0, Hi: most}
	checkSent(t, answer{c: good, stamp: early}, api.Interval{}, api.ErrFlow)
	checkSent(t, answer{c: bad, stamp: early}, api.Interval{}, api.ErrArg)
	checkSent(t, answer{c: good, stamp: api.Interval{Lo: -1, Hi: 299}}, api.Interval{}, api.ErrArg)
	checkGot(t, answer{c: good, stamp: late}, api.Interval{}, api.ErrRange)
	checkGot(t, answer{c: bad, stamp: late}, api.Interval{}, api.ErrArg)
	checkGot(t, answer{c: good, stamp: api.Interval{Lo: 0, Hi: most + 1}}, api.Interval{}, api.ErrArg)
	checkRound(t, answer{good, early, all}, api.Interval{}, api.ErrFlow)
	checkRound(t, answer{bad, early, all}, api.Interval{}, api.ErrArg)
	checkRound(t, answer{good, api.Interval{Lo: 5, Hi: 4}, all}, api.Interval{}, api.ErrArg)
	// neither delays nor a stamp allow it
	for _, elapsed := range []api.Range{{Lo: -1, Hi: 10}, {Lo: 10, Hi: 9}, {Lo: most, Hi: most + 1}} {
		checkRound(t, answer{good, early, elapsed}, api.Interval{}, api.ErrArg)
		checkRound(t, answer{good, late, elapsed}, api.Interval{}, api.ErrArg)
	}
	checkRound(t, answer{good, early, api.Range{Lo: 0, Hi: 10}}, api.Interval{}, api.ErrFlow)
	checkRound(t, answer{bad, late, api.Range{Lo: 0, Hi: 10}}, api.Interval{}, api.ErrArg)
}

// P10.1: J3 to J5 as the chapter says them, for a fixed sequence of mixed answers.
func TestMixed(t *testing.T) {
	r := rand.New(rand.NewSource(5))
	seen := map[[3]api.Errno]int{}
	for range 200000 {
		seen[checkAnswer(t, anyAnswer(r))]++
	}
	for _, e := range [][3]api.Errno{
		{api.OK, api.OK, api.OK}, {api.OK, api.OK, api.ErrFlow}, {api.OK, api.ErrRange, api.OK},
		{api.OK, api.ErrRange, api.ErrFlow}, {api.ErrFlow, api.OK, api.ErrFlow},
	} {
		if seen[e] < 1000 {
			t.Errorf("only %d answers with %v", seen[e], e)
		}
	}
}
