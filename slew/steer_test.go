package slew_test

import (
	"math/big"
	"math/rand"
	"testing"

	"regulator/api"
	"regulator/slew"
)

// turn is what a clock is steered with.
type turn struct {
	o                        api.Out
	at, want, limit, horizon int
}

// nearest is the chapter's word: what is missing for each 10^9 counts of the horizon, rounded to the nearest integer, halves away from 0.
func nearest(missing, horizon int) *big.Int {
	twice := product(2*max(missing, -missing), api.Billion)
	rate := below(twice.Add(twice, number(horizon)), number(2*horizon))
	if missing < 0 {
		rate.Neg(rate)
	}
	return rate
}

// wantRate is the chapter's word for the rate, and whether the limit cuts it.
func wantRate(missing, limit, horizon int) (rate int, isCut bool) {
	exact := nearest(missing, horizon)
	switch {
	case exact.CmpAbs(number(limit)) <= 0:
		return int(exact.Int64()), false
	case missing < 0:
		return -limit, true
	}
	return limit, true
}

// wantSteer is I3 as the chapter says it.
func wantSteer(x turn) (api.Out, api.Errno) {
	if !isValid(x.o) || !isTime(x.at) || !isTime(x.want) || x.limit < 0 || x.limit > fast || x.horizon < 1 || x.horizon > far {
		return api.Out{}, api.ErrArg
	}
	show, e := wantShow(x.o, x.at)
	if e != api.OK {
		return api.Out{}, e
	}
	rate, _ := wantRate(x.want-show, x.limit, x.horizon)
	return api.Out{At: x.at, Show: show, Rate: rate}, api.OK
}

// wantLeft is I4 as the chapter says it.
func wantLeft(x turn) (int, api.Errno) {
	steered, e := wantSteer(x)
	if e != api.OK {
		return 0, e
	}
	if x.at+x.horizon > most || x.want+x.horizon > most {
		return 0, api.ErrRange
	}
	show, e := wantShow(steered, x.at+x.horizon)
	if e != api.OK {
		return 0, e
	}
	return x.want + x.horizon - show, api.OK
}

func checkSteer(t *testing.T, x turn, want api.Out, e api.Errno) {
	t.Helper()
	if o, got := slew.Steer(x.o, x.at, x.want, x.limit, x.horizon); o != want || got != e {
		t.Errorf("Steer of %v is %v, %d, not %v, %d", x, o, got, want, e)
	}
}

func checkLeft(t *testing.T, x turn, want int, e api.Errno) {
	t.Helper()
	if left, got := slew.Left(x.o, x.at, x.want, x.limit, x.horizon); left != want || got != e {
		t.Errorf("Left of %v is %d, %d, not %d, %d", x, left, got, want, e)
	}
}

// checkTurn holds Steer and Left against the chapter, and returns the error of Left.
func checkTurn(t *testing.T, x turn) api.Errno {
	t.Helper()
	o, e := wantSteer(x)
	checkSteer(t, x, o, e)
	left, e := wantLeft(x)
	checkLeft(t, x, left, e)
	return e
}

// turnsOf goes through the turns of a clock with all readings, times, limits and horizons of the edges.
func turnsOf(o api.Out) func(yield func(turn) bool) {
	return func(yield func(turn) bool) {
		for _, at := range edges {
			for _, want := range edges {
				for _, limit := range limits {
					for _, horizon := range horizons {
						if !yield(turn{o, at, want, limit, horizon}) {
							return
						}
					}
				}
			}
		}
	}
}

// P9.1 and P1: I3 and I4 for all edges, right ones and wrong ones, with the errors in their order and no other result beside them; nothing panics.
func TestSteerEdges(t *testing.T) {
	seen := map[api.Errno]int{}
	for o := range anyClocks {
		if !isValid(o) {
			continue
		}
		for x := range turnsOf(o) {
			seen[checkTurn(t, x)]++
		}
	}
	for _, e := range []api.Errno{api.OK, api.ErrArg, api.ErrOrder, api.ErrRange} {
		if seen[e] < 1000 {
			t.Errorf("only %d results with %d", seen[e], e)
		}
	}
}

// P9.1 and P1: I3 and I4 for clocks that are not valid.
func TestSteerNoClock(t *testing.T) {
	for o := range anyClocks {
		if isValid(o) {
			continue
		}
		for _, at := range edges {
			for _, horizon := range horizons {
				x := turn{o, at, 1000, fast, horizon}
				checkSteer(t, x, api.Out{}, api.ErrArg)
				checkLeft(t, x, 0, api.ErrArg)
			}
		}
	}
}

// P9.1: I3 and I4, where each error hides the ones that come later, and what only Left refuses.
func TestSteerErrors(t *testing.T) {
	begun, end := api.Out{At: 5, Show: 100}, api.Out{Show: most - 10}
	for _, x := range []struct {
		name        string
		turn        turn
		steer, left api.Errno
	}{
		{"nothing is wrong", turn{begun, 5, 100, 0, 1}, api.OK, api.OK},
		{"greatest limit and horizon", turn{begun, 5, 100, fast, far}, api.OK, api.OK},
		{"no clock", turn{api.Out{At: -1}, 5, 100, 0, 1}, api.ErrArg, api.ErrArg},
		{"reading below 0", turn{begun, -1, 100, 0, 1}, api.ErrArg, api.ErrArg},
		{"reading after MaxTime", turn{begun, most + 1, 100, 0, 1}, api.ErrArg, api.ErrArg},
		{"wanted time below 0", turn{begun, 5, -1, 0, 1}, api.ErrArg, api.ErrArg},
		{"wanted time after MaxTime", turn{begun, 5, most + 1, 0, 1}, api.ErrArg, api.ErrArg},
		{"limit below 0", turn{begun, 5, 100, -1, 1}, api.ErrArg, api.ErrArg},
		{"limit too great", turn{begun, 5, 100, fast + 1, 1}, api.ErrArg, api.ErrArg},
		{"horizon 0", turn{begun, 5, 100, 0, 0}, api.ErrArg, api.ErrArg},
		{"horizon below 0", turn{begun, 5, 100, 0, -1}, api.ErrArg, api.ErrArg},
		{"horizon too great", turn{begun, 5, 100, 0, far + 1}, api.ErrArg, api.ErrArg},
		{"reading before the clock", turn{begun, 4, 100, 0, 1}, api.ErrOrder, api.ErrOrder},
		{"reading before the clock, horizon after MaxTime", turn{api.Out{At: most}, most - 1, most, 0, 2}, api.ErrOrder, api.ErrOrder},
		{"shows MaxTime at the reading, and one more then", turn{end, 10, 100, 0, 1}, api.OK, api.ErrRange},
		{"shows MaxTime at the reading, and still then", turn{end, 10, 100, 1, 1}, api.OK, api.OK},
		{"would show more at the reading", turn{end, 11, 100, fast, 1}, api.ErrRange, api.ErrRange},
		{"no wanted time, reading before the clock", turn{begun, 4, -1, 0, 1}, api.ErrArg, api.ErrArg},
		{"no limit, reading before the clock", turn{begun, 4, 100, -1, 1}, api.ErrArg, api.ErrArg},
		{"no horizon, reading before the clock", turn{begun, 4, 100, 0, 0}, api.ErrArg, api.ErrArg},
		{"no wanted time, would show more", turn{end, 11, most + 1, 0, 1}, api.ErrArg, api.ErrArg},
		{"no limit, would show more", turn{end, 11, 100, fast + 1, 1}, api.ErrArg, api.ErrArg},
		{"no horizon, would show more", turn{end, 11, 100, 0, far + 1}, api.ErrArg, api.ErrArg},
		{"horizon ends at MaxTime", turn{api.Out{At: most - 1000}, most - 1000, 0, 0, 1000}, api.OK, api.OK},
		{"horizon ends one later", turn{api.Out{At: most - 1000}, most - 1000, 0, 0, 1001}, api.OK, api.ErrRange},
		{"horizon 1 at MaxTime", turn{api.Out{At: most}, most, 0, 0, 1}, api.OK, api.ErrRange},
		{"greatest horizon ends at MaxTime", turn{api.Out{}, most - far, 0, fast, far}, api.OK, api.OK},
		{"greatest horizon ends one later", turn{api.Out{}, most - far + 1, 0, fast, far}, api.OK, api.ErrRange},
		{"wanted time goes on to MaxTime", turn{api.Out{}, 0, most - 1000, 0, 1000}, api.OK, api.OK},
		{"wanted time goes on one later", turn{api.Out{}, 0, most - 999, 0, 1000}, api.OK, api.ErrRange},
		{"wanted time at MaxTime", turn{api.Out{}, 0, most, fast, 1}, api.OK, api.ErrRange},
		{"shows MaxTime at the end", turn{api.Out{Show: most - 1000}, 0, 5, 0, 1000}, api.OK, api.OK},
		{"would show one more at the end", turn{api.Out{Show: most - 999}, 0, 5, 0, 1000}, api.OK, api.ErrRange},
		{"shows MaxTime at the end, cut", turn{api.Out{Show: most - 900}, 0, 5, fast, 1000}, api.OK, api.OK},
		{"would show one more at the end, cut", turn{api.Out{Show: most - 899}, 0, 5, fast, 1000}, api.OK, api.ErrRange},
		{"shows MaxTime at the end, where it is ahead", turn{api.Out{Show: most - far - 1000}, 0, most - far - 300, fast, far}, api.OK, api.OK},
		{"would show one more at the end, where it is ahead", turn{api.Out{Show: most - far - 999}, 0, most - far - 299, fast, far}, api.OK, api.ErrRange},
	} {
		t.Run(x.name, func(t *testing.T) {
			if o, e := slew.Steer(x.turn.o, x.turn.at, x.turn.want, x.turn.limit, x.turn.horizon); e != x.steer {
				t.Errorf("Steer is %v, %d, not %d", o, e, x.steer)
			}
			if left, e := slew.Left(x.turn.o, x.turn.at, x.turn.want, x.turn.limit, x.turn.horizon); e != x.left {
				t.Errorf("Left is %d, %d, not %d", left, e, x.left)
			}
			checkTurn(t, x.turn)
		})
	}
}

// checkMissing steers clocks at which so much is missing, on both sides of 0, and checks the rate, and what is left.
func checkMissing(t *testing.T, missing, limit, horizon, rate, left int) {
	t.Helper()
	const show = 1000000000000000
	// 10 counts at this rate are 9, so that another rate than the one before is found.
	o := api.Out{At: 7, Show: show - 9, Rate: -fast}
	x := turn{o, 17, show + missing, limit, horizon}
	checkSteer(t, x, api.Out{At: 17, Show: show, Rate: rate}, api.OK)
	checkLeft(t, x, left, api.OK)
}

// P9.1: I3 and I4 for values worked out apart from the program: halves on either side of 0, and next to halves; rates at the limit, cut to it, and one below.
func TestSteerWorked(t *testing.T) {
	for _, x := range []struct {
		name                                string
		missing, limit, horizon, rate, left int
	}{
		{"nothing missing", 0, fast, 1, 0, 0},
		{"nothing missing, greatest horizon", 0, fast, far, 0, 0},
		{"nothing missing, no limit", 0, 0, 1000, 0, 0},
		{"a half", 1, fast, 1024, 976563, 0},
		{"a half below 0", -1, fast, 1024, -976563, 1},
		{"next to a half, shorter", 1, fast, 1023, 977517, 1},
		{"next to a half, longer", 1, fast, 1025, 975610, 0},
		{"next to a half below 0, shorter", -1, fast, 1023, -977517, 0},
		{"next to a half below 0, longer", -1, fast, 1025, -975610, 1},
		{"another half", 3, fast, 1024, 2929688, 0},
		{"another half below 0", -3, fast, 1024, -2929688, 1},
		{"the least half", 1, fast, 2000000000, 1, -1},
		{"the least half below 0", -1, fast, 2000000000, -1, 1},
		{"above the least half", 1, fast, 1999999999, 1, 0},
		{"above the least half below 0", -1, fast, 1999999999, -1, 1},
		{"below the least half", 1, fast, 2000000001, 0, 1},
		{"below the least half below 0", -1, fast, 2000000001, 0, -1},
		{"one and a half", 3, fast, 2000000000, 2, -1},
		{"one and a half below 0", -3, fast, 2000000000, -2, 1},
		{"less than one and a half", 3, fast, 2000000001, 1, 1},
		{"less than one and a half below 0", -3, fast, 2000000001, -1, 0},
		{"a half, greatest horizon", 500, fast, far, 1, -500},
		{"a half below 0, greatest horizon", -500, fast, far, -1, 500},
		{"below a half, greatest horizon", 499, fast, far, 0, 499},
		{"below a half below 0, greatest horizon", -499, fast, far, 0, -499},
		{"one and a half, greatest horizon", 1500, fast, far, 2, -500},
		{"one and a half below 0, greatest horizon", -1500, fast, far, -2, 500},
		{"below one and a half, greatest horizon", 1499, fast, far, 1, 499},
		{"one below the greatest rate", 99999999, fast, 1000000000, 99999999, 0},
		{"the greatest rate", 100000000, fast, 1000000000, fast, 0},
		{"one above the greatest rate", 100000001, fast, 1000000000, fast, 1},
		{"one above the least rate", -99999999, fast, 1000000000, -99999999, 0},
		{"the least rate", -100000000, fast, 1000000000, -fast, 0},
		{"one below the least rate", -100000001, fast, 1000000000, -fast, -1},
		{"half one less than the greatest rate", 99999999500, fast, far, fast, -500},
		{"more than half one less than the greatest rate", 99999999499, fast, far, 99999999, 499},
		{"less than half one more than the greatest rate", 100000000499, fast, far, fast, 499},
		{"at a limit", 7, 7000, 1000000, 7000, 0},
		{"one below a limit", 7, 7001, 1000000, 7000, 0},
		{"cut to a limit", 7, 6999, 1000000, 6999, 1},
		{"at a limit below 0", -7, 7000, 1000000, -7000, 0},
		{"one above a limit below 0", -7, 7001, 1000000, -7000, 0},
		{"cut to a limit below 0", -7, 6999, 1000000, -6999, 0},
		{"cut to 1", 7, 1, 1000000, 1, 7},
		{"cut to -1", -7, 1, 1000000, -1, -6},
		{"cut to 0", 7, 0, 1000000, 0, 7},
		{"cut to 0 from below", -7, 0, 1000000, 0, -7},
		{"as much as the horizon", 1000, fast, 1000, fast, 900},
		{"more than the horizon", 1001, fast, 1000, fast, 901},
		{"less than the horizon", 999, fast, 1000, fast, 899},
		{"as much as the horizon below 0", -1000, fast, 1000, -fast, -900},
		{"more than the horizon below 0", -1001, fast, 1000, -fast, -901},
		{"one, in one count", 1, fast, 1, fast, 1},
		{"one below 0, in one count", -1, fast, 1, -fast, 0},
		{"far away, in one count", 1999999999999999, fast, 1, fast, 1999999999999999},
		{"far away below 0, in one count", -1000000000000000, fast, 1, -fast, -999999999999999},
		{"far away, in all counts", 1999000000000000, fast, far, fast, 1998900000000000},
		{"far away below 0, in all counts", -1000000000000000, fast, far, -fast, -999900000000000},
	} {
		t.Run(x.name, func(t *testing.T) { checkMissing(t, x.missing, x.limit, x.horizon, x.rate, x.left) })
	}
}

// P9.1: I3 for a time as far away as times can be, for the shortest and the longest horizons: nothing wraps.
func TestSteerFarthest(t *testing.T) {
	for _, horizon := range []int{1, 2, 3, 1000, 162629, 162630, 162631, far - 1, far} {
		for _, limit := range []int{0, 1, fast - 1, fast} {
			ahead := turn{api.Out{}, 0, most, limit, horizon}
			checkSteer(t, ahead, api.Out{Rate: limit}, api.OK)
			behind := turn{api.Out{Show: most}, 0, 0, limit, horizon}
			checkSteer(t, behind, api.Out{Show: most, Rate: -limit}, api.OK)
		}
	}
}

// P9.1: I3 for all small differences and horizons, and limits around the rate.
func TestSteerSmall(t *testing.T) {
	for missing := -40; missing <= 40; missing++ {
		for horizon := 1; horizon <= 400; horizon++ {
			rate, _ := wantRate(missing, fast, horizon)
			size := max(rate, -rate)
			for limit := max(size-1, 0); limit <= min(size+1, fast); limit++ {
				checkTurn(t, turn{api.Out{At: 3, Show: 50}, 3, 50 + missing, limit, horizon})
			}
		}
	}
}

// anyTurn returns a turn that most often has no error: the wanted time is near what is shown, or far away from it.
func anyTurn(r *rand.Rand) turn {
	o := api.Out{At: anyUpTo(r, most), Show: most/2 + anySign(r, anyUpTo(r, most/2)), Rate: anyRate(r)}
	at := o.At + anyUpTo(r, most-o.At)
	show, _ := wantShow(o, at)
	want := max(0, min(show+anySign(r, anyUpTo(r, most)), most))
	return turn{o, at, want, max(0, anyRate(r)), 1 + r.Intn(far)>>r.Intn(40)}
}

// goodTurns goes through a fixed sequence of mixed turns of which Left is no error.
func goodTurns(seed int64) func(yield func(turn) bool) {
	return func(yield func(turn) bool) {
		r := rand.New(rand.NewSource(seed))
		for good := 0; good < 20000; {
			x := anyTurn(r)
			if _, e := wantLeft(x); e != api.OK {
				continue
			}
			good++
			if !yield(x) {
				return
			}
		}
	}
}

// steered returns what Steer and Left say of a turn without an error.
func steered(t *testing.T, x turn) (o api.Out, left int) {
	t.Helper()
	o, e := slew.Steer(x.o, x.at, x.want, x.limit, x.horizon)
	left, f := slew.Left(x.o, x.at, x.want, x.limit, x.horizon)
	if e != api.OK || f != api.OK {
		t.Fatalf("%v is the error %d, and %d for what is left", x, e, f)
	}
	return o, left
}

// P9.1: I3 and I4 as the chapter says them, for a fixed sequence of mixed turns.
func TestSteerMixed(t *testing.T) {
	r := rand.New(rand.NewSource(3))
	for range 50000 {
		checkTurn(t, anyTurn(r))
	}
	for x := range goodTurns(4) {
		checkTurn(t, x)
	}
}

// P9.3: a clock that is steered shows what it showed before, at this reading; its rate is within the limit, and is not on the other side of what is missing.
func TestNoJump(t *testing.T) {
	for x := range goodTurns(5) {
		o, _ := steered(t, x)
		before, e := slew.Show(x.o, x.at)
		after, f := slew.Show(o, x.at)
		if e != api.OK || f != api.OK || before != after {
			t.Errorf("%v shows %d, %d, and then %d, %d", x, before, e, after, f)
		}
		if o.Rate < -x.limit || o.Rate > x.limit {
			t.Errorf("the rate of %v is %d", x, o.Rate)
		}
		if x.want > before && o.Rate < 0 || x.want < before && o.Rate > 0 || x.want == before && o.Rate != 0 {
			t.Errorf("the rate of %v, which shows %d, is %d", x, before, o.Rate)
		}
	}
}

// checkLeftOver holds what is left against the bounds of P9.4 and P9.5, and reports whether the limit cuts the rate.
func checkLeftOver(t *testing.T, x turn) bool {
	t.Helper()
	o, left := steered(t, x)
	missing, bound := x.want-o.Show, x.horizon/2000000000+1
	rate, isCut := wantRate(missing, x.limit, x.horizon)
	if rate != o.Rate {
		t.Errorf("the rate of %v is %d, not %d", x, o.Rate, rate)
	}
	if !isCut && (left < -bound || left > bound) {
		t.Errorf("%d is left of %v", left, x)
	}
	atLimit := o.Rate == x.limit || o.Rate == -x.limit
	if atLimit && left != missing-part(x.horizon, o.Rate) {
		t.Errorf("%d is left of %v, where %d was missing", left, x, missing)
	}
	if atLimit && (left < min(missing, 0)-bound || left > max(missing, 0)+bound) {
		t.Errorf("%d is left of %v, where only %d was missing", left, x, missing)
	}
	return isCut
}

// P9.4 and P9.5: what is left after the horizon, for rates that are cut, and that are not.
func TestLeftOver(t *testing.T) {
	seen := map[bool]int{}
	for x := range goodTurns(6) {
		seen[checkLeftOver(t, x)]++
	}
	r := rand.New(rand.NewSource(7))
	for range 20000 {
		horizon := 1 + r.Intn(far)>>r.Intn(40)
		limit := anyUpTo(r, fast)
		missing := anySign(r, part(horizon, limit)+r.Intn(5)-2)
		o := api.Out{At: 0, Show: most / 2}
		seen[checkLeftOver(t, turn{o, 0, o.Show + missing, limit, horizon})]++
	}
	if seen[true] < 5000 || seen[false] < 5000 {
		t.Error("only", seen[true], "cut rates, and", seen[false], "others")
	}
}
