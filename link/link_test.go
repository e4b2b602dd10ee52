package link_test

import (
	"math"
	"math/rand"
	"slices"
	"testing"

	"regulator/api"
	"regulator/link"
)

const (
	most = api.MaxTime
	slow = api.MaxDelay
)

// Integers at which something changes, and around them.
var (
	edges  = []int{math.MinInt, -1, 0, 1, most - 1, most, most + 1, math.MaxInt}
	delays = []int{math.MinInt, -1, 0, 1, slow - 1, slow, slow + 1, math.MaxInt}
)

func isTime(x int) bool { return 0 <= x && x <= most }

func isInterval(i api.Interval) bool { return isTime(i.Lo) && isTime(i.Hi) && i.Lo <= i.Hi }

// isDelays is what the chapter says of well-formed delays.
func isDelays(c api.Change) bool {
	return 0 <= c.OutLo && c.OutLo <= c.OutHi && c.OutHi <= 1000000 && 0 <= c.BackLo && c.BackLo <= c.BackHi && c.BackHi <= 1000000
}

// isLink is what the chapter says of links.
func isLink(l []api.Change) bool {
	if len(l) == 0 || len(l) > 20 {
		return false
	}
	last := -1
	for _, c := range l {
		if !isDelays(c) || c.At <= last || c.At > 3000000000000000 {
			return false
		}
		last = c.At
	}
	return l[0].At == 0
}

// from returns delays that are in force from a time on.
func from(at, outLo, outHi, backLo, backHi int) api.Change {
	return api.Change{At: at, OutLo: outLo, OutHi: outHi, BackLo: backLo, BackHi: backHi}
}

// anyDelays goes through all delays with the edges above, most of which are not well-formed.
func anyDelays(yield func(api.Change) bool) {
	for _, outLo := range delays {
		for _, outHi := range delays {
			for _, backLo := range delays {
				for _, backHi := range delays {
					if !yield(from(0, outLo, outHi, backLo, backHi)) {
						return
					}
				}
			}
		}
	}
}

// anyIntervals goes through all intervals with the edges above, most of which are not valid.
func anyIntervals(yield func(api.Interval) bool) {
	for _, low := range edges {
		for _, high := range edges {
			if !yield(api.Interval{Lo: low, Hi: high}) {
				return
			}
		}
	}
}

// anyUpTo returns an integer from 0 to n of any length in bits.
func anyUpTo(r *rand.Rand, n int) int { return r.Intn(n+1) >> r.Intn(52) }

// anyTime returns a time of any length in bits, often one that is near MaxTime.
func anyTime(r *rand.Rand) int {
	x := anyUpTo(r, most)
	if r.Intn(2) == 0 {
		return most - x
	}
	return x
}

// anyRange returns a range of integers from 0 to n, often one that ends with one of these.
func anyRange(r *rand.Rand, n int) api.Range {
	a, b := r.Intn(n+1)>>r.Intn(21), n-r.Intn(n+1)>>r.Intn(21)
	switch r.Intn(6) {
	case 0:
		b = a
	case 1:
		a = b
	}
	return api.Range{Lo: min(a, b), Hi: max(a, b)}
}

// anyChange returns well-formed delays.
func anyChange(r *rand.Rand) api.Change {
	out, back := anyRange(r, slow), anyRange(r, slow)
	return from(0, out.Lo, out.Hi, back.Lo, back.Hi)
}

// anyLink returns a link of some changes, up to a time.
func anyLink(r *rand.Rand, size, last int) []api.Change {
	l := []api.Change{anyChange(r)}
	for _, at := range r.Perm(last)[:size-1] {
		c := anyChange(r)
		c.At = at + 1
		l = append(l, c)
	}
	slices.SortFunc(l, func(a, b api.Change) int { return a.At - b.At })
	return l
}

// longLink returns a link with a change at each time that is a multiple of gap, whose bounds get wider and narrower.
func longLink(size, gap int) []api.Change {
	var l []api.Change
	for k := range size {
		wide := k * 7 % 10
		l = append(l, from(k*gap, 100-wide, 200+wide, 300-2*wide, 400+2*wide))
	}
	return l
}

// inForceAt returns the delays of a link that are in force at a time: the last ones whose At is not after it.
func inForceAt(l []api.Change, x int) api.Change {
	var force api.Change
	for _, c := range l {
		if c.At <= x {
			force = c
		}
	}
	return force
}

// has reports whether the bounds of some delays are within those of others.
func has(wide, narrow api.Change) bool {
	return wide.OutLo <= narrow.OutLo && narrow.OutHi <= wide.OutHi && wide.BackLo <= narrow.BackLo && narrow.BackHi <= wide.BackHi
}

// moments goes through times of an interval at which all delays that are in force in it are so: its ends, and those of all changes within it.
func moments(l []api.Change, i api.Interval) []int {
	all := []int{i.Lo, i.Hi}
	for _, c := range l {
		for x := c.At - 1; x <= c.At+1; x++ {
			if i.Lo <= x && x <= i.Hi {
				all = append(all, x)
			}
		}
	}
	return all
}

// wantBounds is J2 as the chapter says it, time by time.
func wantBounds(l []api.Change, i api.Interval) (api.Change, api.Errno) {
	if !isLink(l) || !isInterval(i) {
		return api.Change{}, api.ErrArg
	}
	want := inForceAt(l, i.Lo)
	want.At = i.Lo
	for _, x := range moments(l, i) {
		c := inForceAt(l, x)
		want.OutLo, want.OutHi = min(want.OutLo, c.OutLo), max(want.OutHi, c.OutHi)
		want.BackLo, want.BackHi = min(want.BackLo, c.BackLo), max(want.BackHi, c.BackHi)
	}
	return want, api.OK
}

// checkBounds holds Bounds against what is wanted; the list stays as it was.
func checkBounds(t *testing.T, l []api.Change, i api.Interval, want api.Change, e api.Errno) {
	t.Helper()
	before := slices.Clone(l)
	if got, f := link.Bounds(l, i); got != want || f != e {
		t.Errorf("Bounds(%v, %v) are %v, %d, not %v, %d", l, i, got, f, want, e)
	}
	if !slices.Equal(l, before) {
		t.Errorf("Bounds changed %v to %v", before, l)
	}
}

func checkValid(t *testing.T, l []api.Change, want bool) {
	t.Helper()
	before := slices.Clone(l)
	if got := link.Valid(l); got != want {
		t.Errorf("Valid(%v) is %v", l, got)
	}
	if !slices.Equal(l, before) {
		t.Errorf("Valid changed %v to %v", before, l)
	}
}

// P10.1: J1 for links of each length, and for what is no link.
func TestValid(t *testing.T) {
	good := from(0, 100, 300, 50, 90)
	for _, x := range []struct {
		name string
		l    []api.Change
		want bool
	}{
		{"nil", nil, false},
		{"no changes", []api.Change{}, false},
		{"one", []api.Change{good}, true},
		{"19", longLink(19, 10), true},
		{"20", longLink(20, 10), true},
		{"21", longLink(21, 10), false},
		{"1000", longLink(1000, 10), false},
		{"all zero", []api.Change{{}}, true},
		{"first at -1", []api.Change{from(-1, 100, 300, 50, 90)}, false},
		{"first at 1", []api.Change{from(1, 100, 300, 50, 90)}, false},
		{"first at MaxTime", []api.Change{from(most, 100, 300, 50, 90)}, false},
		{"first at -1, second at 0", []api.Change{from(-1, 1, 1, 1, 1), good}, false},
		{"first at 1, second at 2", []api.Change{from(1, 1, 1, 1, 1), from(2, 1, 1, 1, 1)}, false},
		{"second at 0", []api.Change{good, good}, false},
		{"second at 1", []api.Change{good, from(1, 0, 0, 0, 0)}, true},
		{"second at -1", []api.Change{good, from(-1, 0, 0, 0, 0)}, false},
		{"second one before MaxTime", []api.Change{good, from(most-1, 0, 0, 0, 0)}, true},
		{"second at MaxTime", []api.Change{good, from(most, 0, 0, 0, 0)}, true},
		{"second after MaxTime", []api.Change{good, from(most+1, 0, 0, 0, 0)}, false},
		{"second at the least integer", []api.Change{good, from(math.MinInt, 0, 0, 0, 0)}, false},
		{"second at the greatest integer", []api.Change{good, from(math.MaxInt, 0, 0, 0, 0)}, false},
		{"third as the second", []api.Change{good, from(7, 0, 0, 0, 0), from(7, 0, 0, 0, 0)}, false},
		{"third one more than the second", []api.Change{good, from(7, 0, 0, 0, 0), from(8, 0, 0, 0, 0)}, true},
		{"third before the second", []api.Change{good, from(7, 0, 0, 0, 0), from(6, 0, 0, 0, 0)}, false},
		{"third after MaxTime", []api.Change{good, from(most, 0, 0, 0, 0), from(most+1, 0, 0, 0, 0)}, false},
		{"second with bad delays", []api.Change{good, from(7, 2, 1, 0, 0)}, false},
		{"last of 20 with bad delays", append(longLink(19, 10), from(999, 0, 0, 2, 1)), false},
		{"last of 20 as the one before", append(longLink(19, 10), from(180, 0, 0, 0, 0)), false},
		{"last of 20 one more than the one before", append(longLink(19, 10), from(181, 0, 0, 0, 0)), true},
	} {
		t.Run(x.name, func(t *testing.T) {
			if isLink(x.l) != x.want {
				t.Error("the chapter says otherwise")
			}
			checkValid(t, x.l, x.want)
			if !x.want {
				checkBounds(t, x.l, api.Interval{}, api.Change{}, api.ErrArg)
			}
		})
	}
}

// P10.1: which delays are well-formed, for all edges, at each place in a link.
func TestDelays(t *testing.T) {
	seen := map[bool]int{}
	for c := range anyDelays {
		want := isDelays(c)
		checkValid(t, []api.Change{c}, want)
		c.At = 5
		checkValid(t, []api.Change{{}, c}, want)
		checkValid(t, []api.Change{{}, c, {At: 6}}, want)
		seen[want]++
	}
	if seen[true] != 100 || seen[false] != 8*8*8*8-100 {
		t.Error(seen)
	}
}

// P10.1: J1 for links of which one integer is changed.
func TestValidMixed(t *testing.T) {
	r := rand.New(rand.NewSource(1))
	seen := map[bool]int{}
	for range 20000 {
		l := anyLink(r, 1+r.Intn(21), 40)
		c := &l[r.Intn(len(l))]
		field := []*int{&c.At, &c.OutLo, &c.OutHi, &c.BackLo, &c.BackHi}[r.Intn(5)]
		*field += r.Intn(5) - 2
		want := isLink(l)
		checkValid(t, l, want)
		seen[want]++
	}
	if seen[true] < 1000 || seen[false] < 1000 {
		t.Error(seen)
	}
}

// P10.1: J2 as it is worded, at a change, one before it, one after it, and over several of them.
func TestBounds(t *testing.T) {
	l := []api.Change{
		from(0, 100, 200, 10, 20),
		from(50, 110, 190, 5, 15),
		from(60, 90, 95, 12, 18),
		from(most, 0, 1, 30, 40),
	}
	for _, x := range []struct {
		name string
		i    api.Interval
		want api.Change
	}{
		{"time 0", api.Interval{Lo: 0, Hi: 0}, from(0, 100, 200, 10, 20)},
		{"one before a change", api.Interval{Lo: 49, Hi: 49}, from(49, 100, 200, 10, 20)},
		{"at a change", api.Interval{Lo: 50, Hi: 50}, from(50, 110, 190, 5, 15)},
		{"one after a change", api.Interval{Lo: 51, Hi: 51}, from(51, 110, 190, 5, 15)},
		{"between changes", api.Interval{Lo: 51, Hi: 59}, from(51, 110, 190, 5, 15)},
		{"from a change to one short of the next", api.Interval{Lo: 50, Hi: 59}, from(50, 110, 190, 5, 15)},
		{"one short of a change", api.Interval{Lo: 10, Hi: 49}, from(10, 100, 200, 10, 20)},
		{"up to a change", api.Interval{Lo: 10, Hi: 50}, from(10, 100, 200, 5, 20)},
		{"from one before a change", api.Interval{Lo: 49, Hi: 55}, from(49, 100, 200, 5, 20)},
		{"over two changes", api.Interval{Lo: 10, Hi: 60}, from(10, 90, 200, 5, 20)},
		{"from a change over the next", api.Interval{Lo: 50, Hi: 70}, from(50, 90, 190, 5, 18)},
		{"after the next", api.Interval{Lo: 60, Hi: 70}, from(60, 90, 95, 12, 18)},
		{"one short of MaxTime", api.Interval{Lo: 60, Hi: most - 1}, from(60, 90, 95, 12, 18)},
		{"up to MaxTime", api.Interval{Lo: 60, Hi: most}, from(60, 0, 95, 12, 40)},
		{"MaxTime", api.Interval{Lo: most, Hi: most}, from(most, 0, 1, 30, 40)},
		{"all times", api.Interval{Lo: 0, Hi: most}, from(0, 0, 200, 5, 40)},
	} {
		t.Run(x.name, func(t *testing.T) { checkBounds(t, l, x.i, x.want, api.OK) })
	}
}

// P10.1 and P1: the error of J2, for an interval, a list, or both, that are not valid; no other result beside it, and nothing panics.
func TestBoundsErrors(t *testing.T) {
	good := []api.Change{from(0, 100, 200, 10, 20), from(50, 110, 190, 5, 15)}
	bad := []api.Change{from(0, 100, 200, 10, 20), from(50, 110, 109, 5, 15)}
	for i := range anyIntervals {
		want, e := wantBounds(good, i)
		if isInterval(i) != (e == api.OK) {
			t.Errorf("the error for %v is %d", i, e)
		}
		checkBounds(t, good, i, want, e)
		checkBounds(t, bad, i, api.Change{}, api.ErrArg)
		checkBounds(t, nil, i, api.Change{}, api.ErrArg)
		checkBounds(t, longLink(21, 10), i, api.Change{}, api.ErrArg)
	}
}

// P10.1: the bounds reach as far as delays can, on either side.
func TestBoundsOfGreatestDelays(t *testing.T) {
	for _, c := range []api.Change{{}, from(0, slow, slow, slow, slow), from(0, 0, slow, 0, slow), from(0, slow, slow, 0, 0), from(0, 0, 0, slow, slow)} {
		for _, i := range []api.Interval{{}, {Lo: 5, Hi: 9}, {Lo: 0, Hi: most}, {Lo: most, Hi: most}} {
			want := c
			want.At = i.Lo
			checkBounds(t, []api.Change{c}, i, want, api.OK)
		}
	}
}

// P10.1: J2 for links of each length, and all intervals of some times.
func TestBoundsAll(t *testing.T) {
	r := rand.New(rand.NewSource(2))
	for size := 1; size <= 20; size++ {
		l := anyLink(r, size, 30)
		for low := range 35 {
			for high := low; high < 35; high++ {
				i := api.Interval{Lo: low, Hi: high}
				want, e := wantBounds(l, i)
				checkBounds(t, l, i, want, e)
			}
		}
	}
}

// anyBounds returns a link, a valid interval, and the bounds of the delays at its times.
func anyBounds(t *testing.T, r *rand.Rand) (l []api.Change, i api.Interval, bounds api.Change) {
	t.Helper()
	l = anyLink(r, 1+r.Intn(20), 30)
	for k := range l {
		// The changes are pulled apart, and now and then up to MaxTime.
		l[k].At *= []int{1, 3, most / 30}[k%3*r.Intn(2)]
	}
	slices.SortFunc(l, func(a, b api.Change) int { return a.At - b.At })
	l = slices.CompactFunc(l, func(a, b api.Change) bool { return a.At == b.At })
	near := func() int {
		return max(0, min(l[r.Intn(len(l))].At+r.Intn(5)-2, most))
	}
	a, b := near(), near()
	i = api.Interval{Lo: min(a, b), Hi: max(a, b)}
	bounds, e := link.Bounds(l, i)
	if e != api.OK {
		t.Fatalf("Bounds(%v, %v) are the error %d", l, i, e)
	}
	return l, i, bounds
}

// P10.1 and P10.6: at a single time the bounds are the delays in force; those of an interval contain those of each time in it, and each bound is that of some of them.
func TestChanges(t *testing.T) {
	r := rand.New(rand.NewSource(3))
	for range 20000 {
		l, i, bounds := anyBounds(t, r)
		want, e := wantBounds(l, i)
		checkBounds(t, l, i, want, e)
		outLo, outHi, backLo, backHi := false, false, false, false
		for _, x := range moments(l, i) {
			c := inForceAt(l, x)
			if !has(bounds, c) {
				t.Errorf("%v, of %v, are not within %v", c, l, bounds)
			}
			outLo, outHi = outLo || c.OutLo == bounds.OutLo, outHi || c.OutHi == bounds.OutHi
			backLo, backHi = backLo || c.BackLo == bounds.BackLo, backHi || c.BackHi == bounds.BackHi
			c.At = x
			checkBounds(t, l, api.Interval{Lo: x, Hi: x}, c, api.OK)
		}
		if !outLo || !outHi || !backLo || !backHi || bounds.At != i.Lo {
			t.Errorf("the bounds of %v in %v are %v", l, i, bounds)
		}
	}
}

// P10.7: further changes behind the end of an interval play no part, whatever they are, and neither do those that are left out.
func TestAnnounced(t *testing.T) {
	r := rand.New(rand.NewSource(4))
	further := 0
	for range 20000 {
		l, i, bounds := anyBounds(t, r)
		known := slices.DeleteFunc(slices.Clone(l), func(c api.Change) bool { return c.At > i.Hi })
		checkBounds(t, known, i, bounds, api.OK)
		if i.Hi == most || len(known) == api.MaxChanges {
			continue
		}
		further++
		wild := anyChange(r)
		for _, wild.At = range []int{i.Hi + 1, min(i.Hi+1000, most), most} {
			checkBounds(t, append(slices.Clone(known), wild), i, bounds, api.OK)
		}
	}
	if further < 1000 {
		t.Error("only", further, "intervals with further changes")
	}
}
