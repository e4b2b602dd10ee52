package chain_test

import (
	"math"
	"math/rand"
	"slices"
	"testing"

	"regulator/api"
	"regulator/chain"
)

// wantAppend is L6 as the chapter says it.
func wantAppend(c api.Chain, r api.Round) (api.Chain, api.Errno) {
	longer := clone(c)
	longer.Rounds = append(longer.Rounds, r)
	switch {
	case !isChain(c):
		return api.Chain{}, api.ErrArg
	case len(c.Rounds) == 200:
		return api.Chain{}, api.ErrLimit
	case !isChain(longer):
		return api.Chain{}, api.ErrOrder
	}
	return longer, api.OK
}

// checkAppend holds Append against the chapter, and returns its results.
func checkAppend(t *testing.T, c api.Chain, r api.Round) (api.Chain, api.Errno) {
	t.Helper()
	before, replies := clone(c), slices.Clone(r.Replies)
	want, e := wantAppend(c, r)
	got, f := chain.Append(c, r)
	if !sameChain(got, want) || f != e {
		t.Errorf("Append(%v, %v) is %v, %d, not %v, %d", c, r, got, f, want, e)
	}
	if !sameChain(c, before) || !slices.Equal(r.Replies, replies) {
		t.Errorf("%v and %v became %v and %v", before, replies, c, r)
	}
	return got, f
}

// appends says what the error has to be, apart from what the chapter's words make of it.
func appends(t *testing.T, c api.Chain, r api.Round, e api.Errno) {
	t.Helper()
	if _, f := checkAppend(t, c, r); f != e {
		t.Errorf("Append(%v, %v) is the error %d, not %d", c, r, f, e)
	}
}

// nextRound returns a round of these authorities that can be the next one of a chain.
func nextRound(c api.Chain, auths ...int) api.Round {
	var r api.Round
	head := wantHead(c.Rounds)
	for _, auth := range auths {
		r.Replies = append(r.Replies, reply(head, c.Host, len(c.Rounds)+1, auth))
	}
	return r
}

// everyone are all authorities.
var everyone = []int{1, 2, 3, 4, 5, 6, 7, 8, 9, 10, 11, 12, 13, 14, 15, 16}

// P12.3: behind each chain there can be an empty round, one of each authority, and one of all of them.
func TestGrowing(t *testing.T) {
	chains := append(some(), long(7, 199), long(8, 198), api.Chain{Host: 5, Rounds: make([]api.Round, 199)})
	for _, c := range chains {
		appends(t, c, api.Round{}, api.OK)
		appends(t, c, api.Round{Replies: []api.Reply{}}, api.OK)
		appends(t, c, nextRound(c, everyone...), api.OK)
		for auth := 1; auth <= 16; auth++ {
			appends(t, c, nextRound(c, auth), api.OK)
		}
		appends(t, c, nextRound(c, 0), api.ErrOrder)
		appends(t, c, nextRound(c, 17), api.ErrOrder)
	}
}

// P12.3: a chain is valid without its last round, and with this one put behind again it is the same.
func TestLastRound(t *testing.T) {
	chains := append(some(), long(7, 199), long(8, 200), api.Chain{Host: 5, Rounds: make([]api.Round, 200)})
	r := rand.New(rand.NewSource(5))
	for range 50 {
		chains = append(chains, anyChain(r, r.Intn(20)))
	}
	for _, c := range chains {
		whole := clone(c)
		for last := len(c.Rounds) - 1; last >= 0 && last >= len(whole.Rounds)-12; last-- {
			c.Rounds = c.Rounds[:last]
			isValid(t, c)
			again, e := checkAppend(t, c, whole.Rounds[last])
			if e != api.OK || !sameChain(again, api.Chain{Host: c.Host, Rounds: whole.Rounds[:last+1]}) {
				t.Errorf("%v is %v, %d with its last round put behind again", whole, again, e)
			}
		}
	}
}

// P12.1: a chain that grows from no rounds to 200.
func TestToTheLimit(t *testing.T) {
	r := rand.New(rand.NewSource(6))
	c := api.Chain{Host: 64}
	for len(c.Rounds) < 200 {
		next := anyRound(r, chain.Head(c.Rounds), c.Host, len(c.Rounds)+1)
		longer, e := chain.Append(c, next)
		if e != api.OK || len(longer.Rounds) != len(c.Rounds)+1 || !chain.Valid(longer) {
			t.Fatalf("round %d is the error %d", len(c.Rounds)+1, e)
		}
		c = longer
	}
	isValid(t, c)
	appends(t, c, api.Round{}, api.ErrLimit)
	appends(t, c, nextRound(c, 1, 2), api.ErrLimit)
}

// P12.1: rounds with a wrong reply, at each place.
func TestWrongRounds(t *testing.T) {
	for _, c := range append(some(), long(8, 199)) {
		right := nextRound(c, 2, 5, 6)
		for k, x := range right.Replies {
			for _, f := range fieldsOf(&x) {
				for _, v := range append(slices.Clone(f.edges), *f.at-1, *f.at+1) {
					x = right.Replies[k]
					*f.at = v
					wrong := api.Round{Replies: slices.Clone(right.Replies)}
					wrong.Replies[k] = x
					checkAppend(t, c, wrong)
				}
				x = right.Replies[k]
			}
			for _, nonce := range append(slices.Clone(nonces), x.Nonce-1, x.Nonce+1, wantHead(c.Rounds)) {
				wrong := api.Round{Replies: slices.Clone(right.Replies)}
				wrong.Replies[k].Nonce = nonce
				appends(t, c, wrong, api.ErrOrder)
			}
		}
		appends(t, c, nextRound(c, 2, 2), api.ErrOrder)
		appends(t, c, nextRound(c, 3, 2), api.ErrOrder)
		appends(t, c, nextRound(c, append(slices.Clone(everyone), 17)...), api.ErrOrder)
		// A round that was the right one before, or would be the right one later.
		longer, _ := checkAppend(t, c, right)
		if len(longer.Rounds) < 200 {
			appends(t, longer, right, api.ErrOrder)
			appends(t, c, nextRound(longer, 2), api.ErrOrder)
		}
	}
}

// L6: the errors in their order, if several apply.
func TestErrorOrder(t *testing.T) {
	bad := api.Round{Replies: []api.Reply{{}}}
	for _, c := range []api.Chain{{}, {Host: 65}, chainOf(0, []int{1}), chainOf(3, []int{2, 1}), long(3, 201), {Host: 3, Rounds: []api.Round{bad}}} {
		appends(t, c, api.Round{}, api.ErrArg)
		appends(t, c, bad, api.ErrArg)
		appends(t, c, nextRound(c, 1), api.ErrArg)
	}
	full := api.Chain{Host: 3, Rounds: make([]api.Round, 200)}
	appends(t, full, api.Round{}, api.ErrLimit)
	appends(t, full, bad, api.ErrLimit)
	appends(t, full, nextRound(full, 1), api.ErrLimit)
	full.Host = 0
	appends(t, full, bad, api.ErrArg)
	full.Host = 3
	full.Rounds[199] = bad
	appends(t, full, api.Round{}, api.ErrArg)
	full.Rounds = full.Rounds[:199]
	appends(t, full, bad, api.ErrOrder)
	appends(t, full, nextRound(full, 1), api.OK)
}

// P12.1: mixed chains and rounds, some of which are disturbed.
func TestMixedAppend(t *testing.T) {
	r := rand.New(rand.NewSource(7))
	seen := map[api.Errno]int{}
	for range 3000 {
		rounds := 1 + r.Intn(8)
		if r.Intn(200) == 0 {
			rounds += 194
		}
		c := anyChain(r, rounds)
		if r.Intn(4) > 0 {
			disturb(r, &c)
		}
		last := len(c.Rounds) - 1
		_, e := checkAppend(t, api.Chain{Host: c.Host, Rounds: c.Rounds[:last]}, c.Rounds[last])
		seen[e]++
		_, e = checkAppend(t, c, anyRound(r, wantHead(c.Rounds), c.Host, last+2))
		seen[e]++
	}
	if seen[api.OK] < 1000 || seen[api.ErrArg] < 1000 || seen[api.ErrOrder] < 100 || seen[api.ErrLimit] < 1 {
		t.Error(seen)
	}
}

// What a caller does with its arguments later, or with a result, plays no part for the other one.
func TestOwnMemory(t *testing.T) {
	c := chainOf(9, []int{2, 3}, nil, []int{3, 4})
	// Room behind what the arguments have.
	c.Rounds = append(make([]api.Round, 0, 10), c.Rounds...)
	c.Rounds[0].Replies = append(make([]api.Reply, 0, 10), c.Rounds[0].Replies...)
	r := nextRound(c, 5, 6)
	kept, keptRound := clone(c), slices.Clone(r.Replies)
	longer, e := chain.Append(c, r)
	if e != api.OK {
		t.Fatal(e)
	}
	if behind := c.Rounds[:4][3]; behind.Replies != nil {
		t.Errorf("%v was written behind the rounds", behind)
	}
	want := clone(longer)
	scribble(c)
	clear(r.Replies)
	if !sameChain(longer, want) {
		t.Error("the result changed with its arguments")
	}
	c, r = clone(kept), api.Round{Replies: slices.Clone(keptRound)}
	longer, _ = chain.Append(c, r)
	scribble(longer)
	for i := range longer.Rounds {
		longer.Rounds[i].Replies = append(longer.Rounds[i].Replies, answer)
	}
	if !sameChain(c, kept) || !slices.Equal(r.Replies, keptRound) {
		t.Error("the arguments changed with the result")
	}
	// The rounds of a result share no memory with each other.
	longer, _ = chain.Append(c, r)
	_ = append(longer.Rounds[0].Replies, answer, answer, answer)
	if !sameChain(longer, want) {
		t.Error("the rounds of a result changed with each other")
	}
}

// scribble makes all replies of a chain others, and takes all rounds away.
func scribble(c api.Chain) {
	for _, r := range c.Rounds {
		clear(r.Replies)
	}
	clear(c.Rounds)
}

// P1: chains and rounds of which nothing is right.
func TestWild(t *testing.T) {
	r := rand.New(rand.NewSource(8))
	for range 2000 {
		c := api.Chain{Host: int(r.Uint64()) >> r.Intn(64)}
		for range r.Intn(4) {
			var round api.Round
			for range r.Intn(3) {
				round.Replies = append(round.Replies, wild(r))
			}
			c.Rounds = append(c.Rounds, round)
		}
		checkValid(t, c)
		checkAppend(t, c, api.Round{Replies: []api.Reply{wild(r)}})
		x, y := math.MinInt, int(r.Uint64())>>r.Intn(64)
		checkBefore(t, c, x, y, y, x)
		checkBefore(t, c, 1, y, 1, math.MaxInt)
	}
}
