package chain_test

import (
	"math"
	"math/rand"
	"slices"
	"testing"

	"regulator/api"
	"regulator/chain"
)

// hasReply reports whether an authority has a reply in the round with a number.
func hasReply(c api.Chain, round, auth int) bool {
	for i, r := range c.Rounds {
		for _, x := range r.Replies {
			if i+1 == round && x.Auth == auth {
				return true
			}
		}
	}
	return false
}

// wantBefore is L5 as the chapter says it.
func wantBefore(c api.Chain, round, auth, later, other int) (bool, api.Errno) {
	switch {
	case !isChain(c):
		return false, api.ErrArg
	case !hasReply(c, round, auth) || !hasReply(c, later, other):
		return false, api.ErrNone
	}
	return round < later, api.OK
}

// checkBefore holds Before against the chapter, and returns its results.
func checkBefore(t *testing.T, c api.Chain, round, auth, later, other int) (bool, api.Errno) {
	t.Helper()
	before := clone(c)
	want, e := wantBefore(c, round, auth, later, other)
	got, f := chain.Before(c, round, auth, later, other)
	if got != want || f != e {
		t.Errorf("Before(%v, %d, %d, %d, %d) is %t, %d, not %t, %d", c, round, auth, later, other, got, f, want, e)
	}
	if !sameChain(c, before) {
		t.Errorf("%v became %v", before, c)
	}
	return got, f
}

// L5: one reply after another, of the same round, the same one, both ways round, and ones that are not there.
func TestBefore(t *testing.T) {
	c := chainOf(3, []int{1, 5}, nil, []int{2, 5, 16})
	for _, x := range []struct {
		round, auth, later, other int
		want                      bool
		e                         api.Errno
	}{
		{1, 1, 3, 2, true, api.OK}, {3, 2, 1, 1, false, api.OK}, {1, 5, 3, 5, true, api.OK}, {3, 5, 1, 5, false, api.OK},
		{1, 5, 3, 16, true, api.OK}, {3, 16, 1, 1, false, api.OK}, {1, 1, 3, 5, true, api.OK},
		{1, 1, 1, 5, false, api.OK}, {1, 5, 1, 1, false, api.OK}, {3, 2, 3, 16, false, api.OK}, {3, 16, 3, 2, false, api.OK},
		{1, 1, 1, 1, false, api.OK}, {3, 16, 3, 16, false, api.OK},
		{0, 1, 3, 2, false, api.ErrNone}, {1, 0, 3, 2, false, api.ErrNone}, {1, 1, 0, 2, false, api.ErrNone}, {1, 1, 3, 0, false, api.ErrNone},
		{0, 0, 0, 0, false, api.ErrNone}, {1, 1, 2, 1, false, api.ErrNone}, {2, 1, 3, 2, false, api.ErrNone}, {2, 5, 2, 5, false, api.ErrNone},
		{1, 2, 3, 2, false, api.ErrNone}, {1, 1, 3, 1, false, api.ErrNone}, {1, 16, 3, 16, false, api.ErrNone}, {3, 1, 1, 2, false, api.ErrNone},
		{1, 1, 4, 2, false, api.ErrNone}, {4, 2, 1, 1, false, api.ErrNone}, {-1, 1, 3, 2, false, api.ErrNone}, {1, 1, -1, 2, false, api.ErrNone},
		{1, 17, 3, 2, false, api.ErrNone}, {1, -1, 3, 2, false, api.ErrNone},
	} {
		if got, e := checkBefore(t, c, x.round, x.auth, x.later, x.other); got != x.want || e != x.e {
			t.Errorf("%v: %t, %d", x, got, e)
		}
	}
}

// L5: all rounds and authorities, and such as there are none of, before and after all others.
func TestBeforeAll(t *testing.T) {
	chains := []api.Chain{
		{Host: 1}, chainOf(2, nil), chainOf(3, []int{1}), chainOf(4, nil, []int{1, 2}, nil),
		chainOf(5, []int{1, 3}, []int{2}, nil, []int{1, 2, 3}), chainOf(6, []int{2}, []int{2}, []int{2}), chainOf(7, []int{0}), chainOf(65, []int{1}, []int{2}),
	}
	edges := []int{math.MinInt, -1, 0, 1, 2, 3, 4, 5, math.MaxInt}
	seen := map[api.Errno]int{}
	for _, c := range chains {
		for _, round := range edges {
			for _, auth := range edges {
				for _, later := range edges {
					for _, other := range edges {
						_, e := checkBefore(t, c, round, auth, later, other)
						seen[e]++
					}
				}
			}
		}
	}
	if seen[api.OK] < 40 || seen[api.ErrNone] < 10000 || seen[api.ErrArg] < 10000 {
		t.Error(seen)
	}
}

// L5: the first and the last round, and the greatest authority, of a chain of 200 rounds.
func TestBeforeLong(t *testing.T) {
	all := make([][]int, 200)
	all[0], all[99], all[199] = []int{1, 16}, []int{7}, []int{1, 16}
	c := chainOf(64, all...)
	for _, round := range []int{0, 1, 2, 100, 199, 200, 201} {
		for _, later := range []int{0, 1, 2, 100, 199, 200, 201} {
			for _, auth := range []int{0, 1, 7, 16, 17} {
				checkBefore(t, c, round, auth, later, 16)
				checkBefore(t, c, later, 16, round, auth)
			}
		}
	}
	c.Rounds = append(c.Rounds, api.Round{})
	if got, e := checkBefore(t, c, 1, 1, 200, 16); got || e != api.ErrArg {
		t.Error(got, e)
	}
}

// L5: a chain that is not valid comes first, whether there are such replies or not.
func TestBeforeArg(t *testing.T) {
	c := chainOf(3, []int{1}, []int{2})
	wrong := []api.Chain{{}, {Host: 4, Rounds: c.Rounds}, chainOf(3, []int{2, 1}, []int{2})}
	for _, f := range fieldsOf(&answer) {
		x := clone(c)
		for _, y := range fieldsOf(&x.Rounds[1].Replies[0]) {
			if y.name == f.name {
				*y.at = -1
			}
		}
		wrong = append(wrong, x)
	}
	x := clone(c)
	x.Rounds[0].Replies[0].Nonce++
	for _, c := range append(wrong, x) {
		for _, l := range [][4]int{{1, 1, 2, 2}, {2, 2, 1, 1}, {0, 0, 0, 0}, {1, 5, 2, 2}} {
			if got, e := checkBefore(t, c, l[0], l[1], l[2], l[3]); got || e != api.ErrArg {
				t.Errorf("%v is %t, %d for %v", l, got, e, c)
			}
		}
	}
}

// place is where a reply is in a chain.
type place struct{ round, auth int }

// places are where a chain has replies.
func places(c api.Chain) []place {
	var l []place
	for i, r := range c.Rounds {
		for _, x := range r.Replies {
			l = append(l, place{i + 1, x.Auth})
		}
	}
	return l
}

// P12.5: being made before is a strict order, and of two replies of different rounds just one was made before the other one.
func TestStrictOrder(t *testing.T) {
	r := rand.New(rand.NewSource(9))
	for range 40 {
		c := anyChain(r, 1+r.Intn(6))
		l := places(c)
		if len(l) > 14 {
			l = slices.DeleteFunc(l, func(place) bool { return r.Intn(len(l)) >= 14 })
		}
		before := func(a, b place) bool {
			got, e := checkBefore(t, c, a.round, a.auth, b.round, b.auth)
			if e != api.OK {
				t.Errorf("%v and %v are the error %d", a, b, e)
			}
			return got
		}
		earlier := map[[2]place]bool{}
		for _, a := range l {
			for _, b := range l {
				earlier[[2]place{a, b}] = before(a, b)
			}
		}
		for _, a := range l {
			for _, b := range l {
				there, back := earlier[[2]place{a, b}], earlier[[2]place{b, a}]
				if there && back || (there || back) != (a.round != b.round) {
					t.Errorf("%v is before %v: %t, and the other way round: %t", a, b, there, back)
				}
				for _, c := range l {
					if there && earlier[[2]place{b, c}] && !earlier[[2]place{a, c}] {
						t.Errorf("%v is before %v, and this before %v, but not the first one before the last one", a, b, c)
					}
				}
			}
		}
	}
}
