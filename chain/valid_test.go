package chain_test

import (
	"math"
	"math/rand"
	"slices"
	"testing"

	"regulator/api"
	"regulator/chain"
)

// isReply is what the chapter says of well-formed replies.
func isReply(r api.Reply) bool {
	names := within(r.Auth, 1, 16) && within(r.Host, 1, 64) && within(r.Round, 1, 200)
	stamp := 0 <= r.Stamp.Lo && r.Stamp.Lo <= r.Stamp.Hi && r.Stamp.Hi <= 3000000000000000
	numbers := within(r.Key, 0, 1000) && within(r.Table, 0, 1000)
	return names && stamp && numbers && within(r.Sig.C, 0, 1073741788) && within(r.Sig.S, 0, 1073741788)
}

// isChain is what the chapter says of valid chains.
func isChain(c api.Chain) bool {
	if !within(c.Host, 1, 64) || len(c.Rounds) > 200 {
		return false
	}
	var head uint64
	for i, r := range c.Rounds {
		for k, x := range r.Replies {
			rises := k == 0 || r.Replies[k-1].Auth < x.Auth
			own := x.Host == c.Host && x.Round == i+1 && x.Nonce == wantNext(head, c.Host, i+1, x.Auth)
			if !isReply(x) || !rises || !own {
				return false
			}
		}
		head = wantAfter(head, r)
	}
	return true
}

// checkValid holds Valid against the chapter, and returns what it is.
func checkValid(t *testing.T, c api.Chain) bool {
	t.Helper()
	before, want := clone(c), isChain(c)
	if got := chain.Valid(c); got != want {
		t.Errorf("Valid(%v) is %t", c, got)
	}
	if !sameChain(c, before) {
		t.Errorf("%v became %v", before, c)
	}
	return want
}

// isValid and isNone say what Valid has to be for a chain, apart from what the chapter's words make of it.
func isValid(t *testing.T, c api.Chain) {
	t.Helper()
	if !checkValid(t, c) {
		t.Errorf("%v is not valid", c)
	}
}

func isNone(t *testing.T, c api.Chain) {
	t.Helper()
	if checkValid(t, c) {
		t.Errorf("%v is valid", c)
	}
}

// some has valid chains: without rounds, with empty ones at the beginning, within and at the end, and with many replies.
func some() []api.Chain {
	all := []int{1, 2, 3, 4, 5, 6, 7, 8, 9, 10, 11, 12, 13, 14, 15, 16}
	return []api.Chain{
		{Host: 1}, {Host: 64, Rounds: []api.Round{}},
		chainOf(3, nil), chainOf(3, nil, []int{2}), chainOf(64, []int{1}), chainOf(1, []int{16}, nil),
		chainOf(9, []int{1, 16}, nil, []int{1}), chainOf(9, []int{2, 3}, nil, nil, []int{3, 4}, []int{2, 5}),
		chainOf(10, nil, nil, []int{10}, nil, nil), chainOf(63, []int{7}, []int{7}, []int{7}),
		chainOf(5, all, all), chainOf(6, nil, all, nil, all, nil),
	}
}

// long returns a valid chain with so many rounds, with replies in each third one, and in the last one.
func long(host, rounds int) api.Chain {
	l := make([][]int, rounds)
	for i := range l {
		if i%3 == 1 {
			l[i] = []int{1 + i%8, 9 + i%8}
		}
	}
	l[rounds-1] = []int{4}
	return chainOf(host, l...)
}

// The chapter's example of a valid chain.
func TestValidExample(t *testing.T) {
	head := chain.Head([]api.Round{{}})
	r := api.Reply{Auth: 2, Host: 3, Round: 2, Nonce: chain.Nonce(head, 3, 2, 2)}
	c := api.Chain{Host: 3, Rounds: []api.Round{{}, {Replies: []api.Reply{r}}}}
	isValid(t, c)
	for _, x := range []api.Reply{
		{Auth: 2, Host: 4, Round: 2, Nonce: r.Nonce}, {Auth: 2, Host: 3, Round: 1, Nonce: r.Nonce},
		{Auth: 2, Host: 3, Round: 2, Nonce: r.Nonce + 1}, {Auth: 3, Host: 3, Round: 2, Nonce: r.Nonce},
	} {
		c.Rounds[1].Replies[0] = x
		isNone(t, c)
	}
}

// P12.2: valid chains, whose nonces are those for the heads before.
func TestChains(t *testing.T) {
	for _, c := range some() {
		isValid(t, c)
		for i, r := range c.Rounds {
			head := chain.Head(c.Rounds[:i])
			for _, x := range r.Replies {
				if d := chain.Nonce(head, c.Host, i+1, x.Auth); d != x.Nonce {
					t.Errorf("the nonce of %v should be %d", x, d)
				}
			}
		}
	}
}

// P12.1: which hosts a chain may have, with and without replies.
func TestHosts(t *testing.T) {
	isNone(t, api.Chain{})
	for _, host := range hosts {
		for _, c := range []api.Chain{{Host: host}, chainOf(host, nil), chainOf(host, []int{1}), chainOf(host, nil, []int{1, 2}, []int{3})} {
			if checkValid(t, c) != within(host, 1, 64) {
				t.Error(host)
			}
		}
	}
}

// P12.1: which authorities may reply.
func TestAuths(t *testing.T) {
	for _, auth := range auths {
		for _, c := range []api.Chain{chainOf(3, []int{auth}), chainOf(3, []int{4}, nil, []int{auth})} {
			if checkValid(t, c) != within(auth, 1, 16) {
				t.Error(auth)
			}
		}
	}
}

// P12.1: how many rounds a chain may have, with and without replies.
func TestLengths(t *testing.T) {
	for _, rounds := range []int{1, 2, 199, 200, 201, 202, 1000} {
		want := rounds <= 200
		for _, c := range []api.Chain{{Host: 7, Rounds: make([]api.Round, rounds)}, long(7, rounds)} {
			if checkValid(t, c) != want {
				t.Error(rounds)
			}
		}
	}
	// The number of a reply's round is that of its place, also where that is the least or the greatest.
	for _, rounds := range []int{1, 2, 199, 200} {
		c := long(7, rounds)
		for _, number := range append(slices.Clone(numbers), rounds-1, rounds, rounds+1) {
			last := &c.Rounds[rounds-1].Replies[0]
			last.Round = number
			if checkValid(t, c) != (number == rounds) {
				t.Error(rounds, number)
			}
			last.Nonce = wantNext(wantHead(c.Rounds[:rounds-1]), 7, number, 4)
			if checkValid(t, c) != (number == rounds) {
				t.Error(rounds, number)
			}
			last.Nonce = wantNext(wantHead(c.Rounds[:rounds-1]), 7, rounds, 4)
		}
	}
}

// P12.1: the integers of a reply that a chain says nothing of.
func TestFields(t *testing.T) {
	for _, x := range []struct {
		name string
		set  func(r *api.Reply, x int)
		yes  []int
		no   []int
	}{
		{"Lo", func(r *api.Reply, x int) { r.Stamp.Lo = x }, []int{0, 1, 699, 700}, []int{math.MinInt, -1, 701, most, math.MaxInt}},
		{"Hi", func(r *api.Reply, x int) { r.Stamp.Hi = x }, []int{600, 601, most - 1, most}, []int{math.MinInt, -1, 0, 599, most + 1, math.MaxInt}},
		{"Lo and Hi", func(r *api.Reply, x int) { r.Stamp = api.Interval{Lo: x, Hi: x} }, []int{0, most}, []int{-1, most + 1}},
		{"Key", func(r *api.Reply, x int) { r.Key = x }, []int{0, 1, 1000}, []int{math.MinInt, -1, 1001, math.MaxInt}},
		{"Table", func(r *api.Reply, x int) { r.Table = x }, []int{0, 1, 1000}, []int{math.MinInt, -1, 1001, math.MaxInt}},
		{"C", func(r *api.Reply, x int) { r.Sig.C = x }, []int{0, 1, 1073741788}, []int{math.MinInt, -1, 1073741789, math.MaxInt}},
		{"S", func(r *api.Reply, x int) { r.Sig.S = x }, []int{0, 1, 1073741788}, []int{math.MinInt, -1, 1073741789, math.MaxInt}},
	} {
		t.Run(x.name, func(t *testing.T) {
			for _, shape := range [][][]int{{{2}}, {{1, 2, 3}}, {nil, {5}, {2, 9}, nil}} {
				for want, values := range map[bool][]int{true: x.yes, false: x.no} {
					for _, v := range values {
						c := chainOf(3, shape...)
						// The last reply of all, so that no later nonce depends on it.
						for i := range c.Rounds {
							if l := c.Rounds[i].Replies; len(l) > 0 && i >= len(c.Rounds)-2 {
								x.set(&l[len(l)-1], v)
							}
						}
						if checkValid(t, c) != want {
							t.Error(v)
						}
					}
				}
			}
		})
	}
}

// P12.1: replies of another host, of another round, and with another nonce.
func TestForeign(t *testing.T) {
	shapes := [][][]int{{{2}}, {nil, {2}}, {{1, 2}, {2, 4}}, {nil, nil, {4, 6, 9}, nil}, {{1}, nil, {2, 3}}}
	for _, shape := range shapes {
		c := chainOf(3, shape...)
		isValid(t, c)
		for i, round := range c.Rounds {
			head := wantHead(c.Rounds[:i])
			other := wantNext(head, 0)
			for k, x := range round.Replies {
				at := &c.Rounds[i].Replies[k]
				for _, nonce := range []uint64{
					x.Nonce - 1, x.Nonce + 1, x.Nonce + power, x.Nonce ^ 1<<63, 0, head,
					wantNext(head, 4, x.Round, x.Auth), wantNext(head, 3, x.Round+1, x.Auth), wantNext(head, 3, x.Round-1, x.Auth),
					wantNext(head, 3, x.Round, x.Auth+1), wantNext(head, 3, x.Round, x.Auth-1),
					wantNext(head+1, 3, x.Round, x.Auth), wantNext(other, 3, x.Round, x.Auth), wantDigest(x),
				} {
					*at = x
					at.Nonce = nonce
					isNone(t, c)
				}
				for _, step := range []int{-1, 1} {
					*at = x
					at.Host += step
					isNone(t, c)
					at.Nonce = wantNext(head, at.Host, x.Round, x.Auth)
					isNone(t, c)
					*at = x
					at.Round += step
					isNone(t, c)
					at.Nonce = wantNext(head, 3, at.Round, x.Auth)
					isNone(t, c)
				}
				*at = x
			}
		}
		isValid(t, c)
	}
}

// P12.1: the replies of the chain of another host, or for rounds without some that are there, or in another order.
func TestOtherChains(t *testing.T) {
	a, b := chainOf(3, []int{1}, nil, []int{2}), chainOf(4, []int{1}, nil, []int{2})
	isNone(t, api.Chain{Host: 3, Rounds: b.Rounds})
	isNone(t, api.Chain{Host: 3, Rounds: []api.Round{a.Rounds[0], a.Rounds[1], b.Rounds[2]}})
	isNone(t, api.Chain{Host: 3, Rounds: []api.Round{a.Rounds[2], a.Rounds[1], a.Rounds[0]}})
	isNone(t, api.Chain{Host: 3, Rounds: []api.Round{a.Rounds[0], a.Rounds[2]}})
	isNone(t, api.Chain{Host: 3, Rounds: []api.Round{{}, a.Rounds[0]}})
	isNone(t, api.Chain{Host: 3, Rounds: []api.Round{a.Rounds[0], {}, {}, a.Rounds[2]}})
	// A round 3 that was asked for without the first one.
	without := chainOf(3, nil, nil, []int{2})
	isValid(t, without)
	isNone(t, api.Chain{Host: 3, Rounds: []api.Round{a.Rounds[0], {}, without.Rounds[2]}})
	isNone(t, api.Chain{Host: 3, Rounds: []api.Round{{}, {}, a.Rounds[2]}})
}

// P12.1: authorities within a round rise strictly.
func TestRising(t *testing.T) {
	for a := 1; a <= 16; a++ {
		for b := 1; b <= 16; b++ {
			for _, c := range []api.Chain{chainOf(3, []int{a, b}), chainOf(3, nil, []int{a, b}, []int{1}), chainOf(3, []int{b}, []int{a, b})} {
				if checkValid(t, c) != (a < b) {
					t.Error(a, b)
				}
			}
			// From one round to another one they need not rise.
			isValid(t, chainOf(3, []int{a}, []int{b}))
		}
	}
	for _, l := range [][]int{{1, 2, 2}, {1, 1, 2}, {2, 1, 3}, {1, 3, 2}, {3, 2, 1}, {1, 2, 3, 1}} {
		isNone(t, chainOf(3, l))
	}
	isNone(t, chainOf(3, slices.Repeat([]int{5}, 100000)))
	isNone(t, chainOf(3, []int{1, 2, 3, 4, 5, 6, 7, 8, 9, 10, 11, 12, 13, 14, 15, 16, 17}))
	isNone(t, chainOf(3, []int{0, 1, 2}))
}

// tame returns a well-formed reply with edges among its integers, and the nonce for a head.
func tame(r *rand.Rand, head uint64, host, round, auth int) api.Reply {
	x := reply(head, host, round, auth)
	ends := []int{0, 1, 600, most - 1, most, r.Intn(most)}
	x.Stamp.Lo = ends[r.Intn(len(ends))]
	x.Stamp.Hi = max(x.Stamp.Lo, ends[r.Intn(len(ends))])
	x.Key, x.Table = r.Intn(1001), r.Intn(2)*1000
	x.Sig = api.Sig{C: r.Intn(api.Q), S: r.Intn(2) * (api.Q - 1)}
	return x
}

// anyRound returns a round that can be the next one behind a head.
func anyRound(r *rand.Rand, head uint64, host, round int) api.Round {
	var next api.Round
	if r.Intn(3) == 0 {
		return next
	}
	rarely := 1 + r.Intn(8)
	for auth := 1; auth <= 16; auth++ {
		if r.Intn(rarely) == 0 {
			next.Replies = append(next.Replies, tame(r, head, host, round, auth))
		}
	}
	return next
}

// anyChain returns a valid chain with so many rounds.
func anyChain(r *rand.Rand, rounds int) api.Chain {
	c := api.Chain{Host: 1 + r.Intn(64)}
	var head uint64
	for i := range rounds {
		next := anyRound(r, head, c.Host, i+1)
		c.Rounds = append(c.Rounds, next)
		head = wantAfter(head, next)
	}
	return c
}

// disturb changes a chain a little: an integer of a reply, its nonce, its place, its round, or the host.
func disturb(r *rand.Rand, c *api.Chain) {
	if r.Intn(8) == 0 {
		c.Host += r.Intn(3) - 1
	}
	if len(c.Rounds) == 0 {
		return
	}
	i := r.Intn(len(c.Rounds))
	l := c.Rounds[i].Replies
	if len(l) == 0 {
		c.Rounds[i].Replies = append(l, tame(r, wantHead(c.Rounds[:i]), c.Host, i+1, 1+r.Intn(16)))
		return
	}
	k := r.Intn(len(l))
	fields := fieldsOf(&l[k])
	switch r.Intn(7) {
	case 0:
		l[k].Nonce += uint64(r.Intn(3)) - 1
	case 1:
		l[0], l[k] = l[k], l[0]
	case 2:
		c.Rounds[i].Replies = slices.Delete(l, k, k+1)
	case 3:
		j := r.Intn(len(c.Rounds))
		c.Rounds[i], c.Rounds[j] = c.Rounds[j], c.Rounds[i]
	case 4:
		l[k].Nonce = wantNext(wantHead(c.Rounds[:i]), c.Host, i+1, l[k].Auth)
	default:
		f := fields[r.Intn(len(fields))]
		*f.at = f.edges[r.Intn(len(f.edges))]
	}
}

// P12.1: mixed chains, and such as are disturbed up to three times.
func TestMixed(t *testing.T) {
	r := rand.New(rand.NewSource(3))
	seen := map[bool]int{}
	for range 3000 {
		c := anyChain(r, r.Intn(12))
		isValid(t, c)
		checkHead(t, c.Rounds)
		for range 3 {
			disturb(r, &c)
			seen[checkValid(t, c)]++
			checkHead(t, c.Rounds)
		}
	}
	if seen[true] < 500 || seen[false] < 5000 {
		t.Error(seen)
	}
}

// P12.1: chains that are full of replies, whose last one is right or wrong.
func TestFull(t *testing.T) {
	r := rand.New(rand.NewSource(4))
	c := anyChain(r, 200)
	isValid(t, c)
	all := make([][]int, 200)
	for i := range all {
		all[i] = []int{1, 2, 3, 4, 5, 6, 7, 8, 9, 10, 11, 12, 13, 14, 15, 16}
	}
	c = chainOf(64, all...)
	isValid(t, c)
	c.Rounds[199].Replies[15].Nonce++
	isNone(t, c)
	c.Rounds[199].Replies[15].Nonce--
	c.Rounds[0].Replies[0].Key++
	isNone(t, c)
}
