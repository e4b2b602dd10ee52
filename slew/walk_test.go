package slew_test

import (
	"math/rand"
	"testing"

	"regulator/api"
	"regulator/slew"
)

// moved returns a turn with all readings moved by counts, and all times by time.
func moved(x turn, counts, time int) turn {
	x.o.At += counts
	x.at += counts
	x.o.Show += time
	x.want += time
	return x
}

// checkMoved holds all results for a turn that is moved against those for the turn as it was.
func checkMoved(t *testing.T, x turn, counts, time int) {
	t.Helper()
	y := moved(x, counts, time)
	show, e := slew.Show(x.o, x.at)
	if e != api.OK {
		t.Fatalf("%v at %d is the error %d", x.o, x.at, e)
	}
	checkShow(t, y.o, y.at, show+time, api.OK)
	o, left := steered(t, x)
	checkSteer(t, y, api.Out{At: o.At + counts, Show: o.Show + time, Rate: o.Rate}, api.OK)
	checkLeft(t, y, left, api.OK)
}

// room returns how far times up to greatest can be moved on, as long as they are in their range.
func room(greatest ...int) int {
	least := most
	for _, x := range greatest {
		least = min(least, most-x)
	}
	return least
}

// P9.6: results move with readings and times, up to their ends on both sides.
func TestMoving(t *testing.T) {
	r := rand.New(rand.NewSource(8))
	for x := range goodTurns(9) {
		_, left := steered(t, x)
		later := room(x.at + x.horizon)
		ahead := room(x.want+x.horizon, x.want+x.horizon-left)
		back, behind := -x.o.At, -min(x.o.Show, x.want)
		checkMoved(t, x, r.Intn(later+1), r.Intn(ahead+1))
		checkMoved(t, x, -r.Intn(1-back), -r.Intn(1-behind))
		checkMoved(t, x, later, behind)
		checkMoved(t, x, back, ahead)
	}
}

// mark is what a clock shows at a reading, after it was steered so often.
type mark struct{ at, show, turns int }

// checkWalk holds what a clock went on by against P9.7, from a mark at which it begins, or is steered, to a later one.
func checkWalk(t *testing.T, from, to mark, limit int) {
	t.Helper()
	counts, gone, turns := to.at-from.at, to.show-from.show, to.turns-from.turns
	if gone < 0 {
		t.Fatalf("back from %v to %v", from, to)
	}
	if product(gone, api.Billion).Cmp(product(counts, api.Billion+limit)) > 0 {
		t.Errorf("too far from %v to %v, with the limit %d", from, to, limit)
	}
	if product(gone+turns+1, api.Billion).Cmp(product(counts, api.Billion-limit)) < 0 {
		t.Errorf("not far enough from %v to %v, with the limit %d", from, to, limit)
	}
}

// walk steers a clock again and again, and returns what it shows each time, and at the end.
func walk(t *testing.T, r *rand.Rand, turns, limit int) []mark {
	t.Helper()
	o, e := slew.Start(anyUpTo(r, far), anyUpTo(r, far))
	if e != api.OK {
		t.Fatal("Start is the error", e)
	}
	l := []mark{{o.At, o.Show, 0}}
	gap := r.Intn(40)
	for turn := range turns {
		at := o.At + r.Intn(far)>>gap
		want := max(0, o.Show+at-o.At+anySign(r, r.Intn(far)>>r.Intn(40)))
		if o, e = slew.Steer(o, at, want, limit, 1+r.Intn(far)>>r.Intn(40)); e != api.OK {
			t.Fatal("Steer is the error", e)
		}
		l = append(l, mark{o.At, o.Show, turn + 1})
	}
	at := o.At + r.Intn(far)
	show, e := slew.Show(o, at)
	if e != api.OK {
		t.Fatal("Show is the error", e)
	}
	return append(l, mark{at, show, turns})
}

// P9.7: walks of many turns, from each turn to each later one.
func TestWalks(t *testing.T) {
	r := rand.New(rand.NewSource(10))
	for range 200 {
		limit := max(0, anyRate(r))
		l := walk(t, r, 1+r.Intn(60), limit)
		for i, from := range l {
			for _, to := range l[i:] {
				checkWalk(t, from, to, limit)
			}
		}
	}
}

// P9.7: a clock that is steered at each reading loses or gains what is no full microsecond each time, and no more: with a negative rate it stands, with a positive one it goes on with the counter.
func TestTurnsAtEachReading(t *testing.T) {
	for _, x := range []struct {
		name                 string
		limit, want, every   int
		turns, gone, horizon int
	}{
		{"back, a bit slow", 1, 0, 1, 1000, 0, 1000},
		{"back, slow", fast, 0, 1, 1000, 0, 1000},
		{"back, slow, at each second reading", fast, 0, 2, 1000, 1000, 1000},
		{"back, slow, at each tenth reading", fast, 0, 10, 1000, 9000, 1000},
		{"ahead, a bit fast", 1, most, 1, 1000, 1000, 1000},
		{"ahead, fast", fast, most, 1, 1000, 1000, 1000},
		{"ahead, fast, at each ninth reading", fast, most, 9, 1000, 9000, 1000},
		{"ahead, fast, at each tenth reading", fast, most, 10, 1000, 11000, 1000},
		{"back, no limit", 0, 0, 1, 1000, 1000, 1},
	} {
		t.Run(x.name, func(t *testing.T) {
			o := api.Out{At: 5, Show: 5000000}
			for turn := range x.turns {
				var e api.Errno
				if o, e = slew.Steer(o, 5+turn*x.every, x.want, x.limit, x.horizon); e != api.OK {
					t.Fatal("Steer is the error", e)
				}
			}
			checkShow(t, o, 5+x.turns*x.every, 5000000+x.gone, api.OK)
		})
	}
}

// P9.3 and P9.4: a clock that is steered again and again towards a time that goes on with the counter reaches it, and stays there.
func TestReaching(t *testing.T) {
	for _, missing := range []int{-7000000, -1, 0, 1, 7000000} {
		o, want := api.Out{At: 0, Show: 10000000}, 10000000+missing
		for at := 0; at < 100000000; at += 1000000 {
			var e api.Errno
			if o, e = slew.Steer(o, at, want+at, fast, 2000000); e != api.OK {
				t.Fatal("Steer is the error", e)
			}
		}
		if away := want + o.At - o.Show; away < -1 || away > 1 {
			t.Errorf("%d is left of %d", away, missing)
		}
	}
}
