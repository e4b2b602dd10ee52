package chain_test

import (
	"math/rand"
	"slices"
	"testing"

	"regulator/api"
	"regulator/chain"
)

// repliesFrom returns how many replies a chain has in the rounds from an index on.
func repliesFrom(c api.Chain, from int) int {
	count := 0
	for _, r := range c.Rounds[min(from, len(c.Rounds)):] {
		count += len(r.Replies)
	}
	return count
}

// others returns replies that could be there in the place of x, behind rounds with a head.
func others(x api.Reply, head uint64) []api.Reply {
	var l []api.Reply
	for auth := 1; auth <= 16; auth++ {
		y := x
		y.Auth, y.Nonce = auth, wantNext(head, x.Host, x.Round, auth)
		l = append(l, y)
	}
	y := x
	for _, f := range fieldsOf(&y) {
		for _, step := range []int{-1, 1} {
			y = x
			*f.at += step
			l = append(l, y)
		}
	}
	for _, nonce := range []uint64{x.Nonce - 1, x.Nonce + 1} {
		y = x
		y.Nonce = nonce
		l = append(l, y)
	}
	return slices.DeleteFunc(l, func(y api.Reply) bool { return y == x })
}

// tampered goes through a chain with each reply replaced, left out or added, each with the index of its round.
func tampered(c api.Chain, yield func(c api.Chain, at int)) {
	for i, r := range c.Rounds {
		head := wantHead(c.Rounds[:i])
		with := func(l []api.Reply) {
			x := clone(c)
			x.Rounds[i].Replies = l
			yield(x, i)
		}
		for k, x := range r.Replies {
			with(slices.Delete(slices.Clone(r.Replies), k, k+1))
			with(slices.Insert(slices.Clone(r.Replies), k, x))
			for _, y := range others(x, head) {
				l := slices.Clone(r.Replies)
				l[k] = y
				with(l)
			}
		}
		for k := range len(r.Replies) + 1 {
			for auth := 1; auth <= 16; auth++ {
				with(slices.Insert(slices.Clone(r.Replies), k, reply(head, c.Host, i+1, auth)))
			}
		}
	}
}

// P12.4: whatever is done to a reply, a later reply shows it; if there is none, the chain may be valid.
func TestCommitment(t *testing.T) {
	shapes := [][][]int{
		{{2}}, {{2}, {3}}, {{2}, nil}, {{2}, nil, {3}}, {{2, 5}, {2, 5}}, {nil, {2, 5, 9}, nil, nil}, {nil, {2}, nil, {1}, nil},
		{{1, 16}, {4}, {1, 16}}, {{1}, nil, nil, nil, {16}}, {nil, nil}, {nil, {3}}, {everyone}, {everyone, {8}}, {{8}, everyone},
	}
	later, last := 0, map[bool]int{}
	for _, shape := range shapes {
		c := chainOf(3, shape...)
		tampered(c, func(x api.Chain, at int) {
			if repliesFrom(c, at+1) > 0 {
				isNone(t, x)
				later++
			} else {
				last[checkValid(t, x)]++
			}
		})
	}
	if later < 1000 || last[true] < 300 || last[false] < 300 {
		t.Error(later, last)
	}
}

// P12.4: the same in mixed chains.
func TestMixedCommitment(t *testing.T) {
	r := rand.New(rand.NewSource(10))
	later, last := 0, map[bool]int{}
	for range 30 {
		c := anyChain(r, 1+r.Intn(5))
		tampered(c, func(x api.Chain, at int) {
			valid := chain.Valid(x)
			switch {
			case repliesFrom(c, at+1) == 0:
				last[checkValid(t, x)]++
			case valid:
				t.Errorf("%v is valid", x)
			default:
				later++
			}
		})
	}
	if later < 5000 || last[true] < 1000 || last[false] < 1000 {
		t.Error(later, last)
	}
}

// P12.4: what is not shown by a later reply of the chain is shown by the next one, which was asked for with another nonce.
func TestLaterRound(t *testing.T) {
	for _, shape := range [][][]int{{{2}}, {{2, 5}, nil}, {nil, {1, 16}, nil, nil}} {
		c := chainOf(3, shape...)
		next := nextRound(c, 4)
		appends(t, c, next, api.OK)
		tampered(c, func(x api.Chain, at int) {
			if chain.Valid(x) {
				appends(t, x, next, api.ErrOrder)
				appends(t, x, nextRound(x, 4), api.OK)
				appends(t, x, api.Round{}, api.OK)
			}
		})
	}
}

// P12.4: an empty round more or less is shown, too, as it changes the head and the numbers of later rounds.
func TestEmptyRounds(t *testing.T) {
	c := chainOf(3, nil, []int{2}, nil, nil, []int{4})
	for i := range c.Rounds {
		x := clone(c)
		x.Rounds = slices.Insert(x.Rounds, i, api.Round{})
		isNone(t, x)
	}
	for _, i := range []int{0, 2, 3} {
		x := clone(c)
		x.Rounds = slices.Delete(x.Rounds, i, i+1)
		isNone(t, x)
	}
	c.Rounds = append(c.Rounds, api.Round{}, api.Round{})
	isValid(t, c)
}

// Two replies that have the same digest, found by a search outside of the project.
var twins = [2]api.Reply{
	{Auth: 2, Host: 3, Round: 1, Nonce: 16584337935395190789, Stamp: api.Interval{Lo: 1000, Hi: 1010}, Key: 1, Table: 46, Sig: api.Sig{C: 160703574, S: 418875367}},
	{Auth: 2, Host: 3, Round: 1, Nonce: 16584337935395190789, Stamp: api.Interval{Lo: 1000, Hi: 1010}, Key: 1, Table: 16, Sig: api.Sig{C: 308856025, S: 201980323}},
}

// P12.4: replies with equal digests lead to the same nonces, so that one in the place of the other one is not shown.
func TestEqualDigests(t *testing.T) {
	const both = 14856787794549249802
	if a, b := chain.Digest(twins[0]), chain.Digest(twins[1]); a != both || b != both || twins[0] == twins[1] {
		t.Error(a, b)
	}
	c := chainOf(3, []int{2}, nil, []int{4, 7}, []int{1})
	c.Rounds[0].Replies[0] = twins[0]
	isNone(t, c)
	c = api.Chain{Host: 3, Rounds: []api.Round{{Replies: twins[:1]}}}
	for _, l := range [][]int{nil, {4, 7}, {1}} {
		c, _ = checkAppend(t, c, nextRound(c, l...))
	}
	isValid(t, c)
	c.Rounds[0].Replies[0] = twins[1]
	isValid(t, c)
	c.Rounds[0].Replies[0].Table++
	isNone(t, c)
}
