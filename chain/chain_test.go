package chain_test

import (
	"encoding/binary"
	"fmt"
	"hash/fnv"
	"math"
	"math/rand"
	"slices"
	"testing"

	"regulator/api"
	"regulator/chain"
	"regulator/digest"
)

const most = api.MaxTime

// power is 2^32.
const power = 4294967296

// Integers at which something changes, and around them.
var (
	auths     = []int{math.MinInt, -1, 0, 1, 2, 15, 16, 17, math.MaxInt}
	hosts     = []int{math.MinInt, -1, 0, 1, 2, 63, 64, 65, math.MaxInt}
	numbers   = []int{math.MinInt, -1, 0, 1, 2, 199, 200, 201, math.MaxInt}
	nonces    = []uint64{0, 1, power - 1, power, power + 1, 1<<63 - 1, 1 << 63, math.MaxUint64 - power, math.MaxUint64}
	times     = []int{math.MinInt, -1, 0, 1, 599, 600, 601, 699, 700, 701, most - 1, most, most + 1, math.MaxInt}
	tables    = []int{math.MinInt, -1, 0, 1, 999, 1000, 1001, math.MaxInt}
	exponents = []int{math.MinInt, -1, 0, 1, api.Q - 1, api.Q, api.P, math.MaxInt}
)

// answer is a reply with integers that all differ.
var answer = api.Reply{
	Auth: 2, Host: 3, Round: 4, Nonce: 5*power + 6,
	Stamp: api.Interval{Lo: 600, Hi: 700}, Key: 8, Table: 9, Sig: api.Sig{C: 1000, S: 1100},
}

// field is an integer of a reply, with the edges of what it may be.
type field struct {
	name  string
	at    *int
	edges []int
}

// fieldsOf returns the integers of a reply, but for its nonce.
func fieldsOf(r *api.Reply) []field {
	return []field{
		{"Auth", &r.Auth, auths},
		{"Host", &r.Host, hosts},
		{"Round", &r.Round, numbers},
		{"Lo", &r.Stamp.Lo, times},
		{"Hi", &r.Stamp.Hi, times},
		{"Key", &r.Key, tables},
		{"Table", &r.Table, tables},
		{"C", &r.Sig.C, exponents},
		{"S", &r.Sig.S, exponents},
	}
}

func within(x, low, high int) bool { return low <= x && x <= high }

// sum is the digest of bytes as another program computes it.
func sum(b []byte) uint64 {
	h := fnv.New64a()
	h.Write(b)
	return h.Sum64()
}

// text is the text of integers.
func text(l ...int) []byte {
	var b []byte
	for _, x := range l {
		b = fmt.Appendf(b, "%d ", x)
	}
	return b
}

// halves returns a number's upper and lower 32 bits.
func halves(n uint64) []int { return []int{int(n / power), int(n % power)} }

// wantDigest is L1 as the chapter says it.
func wantDigest(r api.Reply) uint64 {
	rest := []int{r.Stamp.Lo, r.Stamp.Hi, r.Key, r.Table, r.Sig.C, r.Sig.S}
	return sum(text(slices.Concat([]int{r.Auth, r.Host, r.Round}, halves(r.Nonce), rest)...))
}

// wantNext is the digest of a number's bytes and of the text of integers.
func wantNext(d uint64, l ...int) uint64 {
	return sum(append(binary.BigEndian.AppendUint64(nil, d), text(l...)...))
}

// wantAfter is the head of rounds of which r is the last one, and head that of all before it.
func wantAfter(head uint64, r api.Round) uint64 {
	l := []int{len(r.Replies)}
	for _, x := range r.Replies {
		l = append(l, halves(wantDigest(x))...)
	}
	return wantNext(head, l...)
}

// wantHead is L2 as P12.2 says it: made of the head of all but the last round, and of this one.
func wantHead(l []api.Round) uint64 {
	if len(l) == 0 {
		return 0
	}
	last := len(l) - 1
	return wantAfter(wantHead(l[:last]), l[last])
}

// reply returns a reply with the nonce for a head.
func reply(head uint64, host, round, auth int) api.Reply {
	r := answer
	r.Auth, r.Host, r.Round, r.Nonce = auth, host, round, wantNext(head, host, round, auth)
	return r
}

// chainOf returns a valid chain of a host, with the authorities that reply in each round.
func chainOf(host int, rounds ...[]int) api.Chain {
	c := api.Chain{Host: host}
	var head uint64
	for i, l := range rounds {
		var r api.Round
		for _, auth := range l {
			r.Replies = append(r.Replies, reply(head, host, i+1, auth))
		}
		c.Rounds = append(c.Rounds, r)
		head = wantAfter(head, r)
	}
	return c
}

// clone returns a chain that shares no memory with c.
func clone(c api.Chain) api.Chain {
	var rounds []api.Round
	for _, r := range c.Rounds {
		rounds = append(rounds, api.Round{Replies: slices.Clone(r.Replies)})
	}
	return api.Chain{Host: c.Host, Rounds: rounds}
}

func sameRounds(a, b []api.Round) bool {
	return slices.EqualFunc(a, b, func(x, y api.Round) bool { return slices.Equal(x.Replies, y.Replies) })
}

func sameChain(a, b api.Chain) bool { return a.Host == b.Host && sameRounds(a.Rounds, b.Rounds) }

func checkDigest(t *testing.T, r api.Reply) {
	t.Helper()
	if d := chain.Digest(r); d != wantDigest(r) {
		t.Errorf("the digest of %v is %d, not %d", r, d, wantDigest(r))
	}
}

func checkHead(t *testing.T, l []api.Round) {
	t.Helper()
	before := clone(api.Chain{Rounds: l})
	if d := chain.Head(l); d != wantHead(l) {
		t.Errorf("the head of %v is %d, not %d", l, d, wantHead(l))
	}
	if !sameRounds(l, before.Rounds) {
		t.Errorf("%v became %v", before.Rounds, l)
	}
}

// The chapter's examples of heads and nonces, with the functions of layer 3.
func TestHeadExamples(t *testing.T) {
	if d := chain.Head(nil); d != 0 {
		t.Error(d)
	}
	if d := chain.Head([]api.Round{}); d != 0 {
		t.Error(d)
	}
	if d := chain.Head([]api.Round{{}}); d != digest.Next(0, 0) {
		t.Error(d)
	}
	if d := chain.Nonce(digest.Next(0, 0), 3, 2, 2); d != digest.Next(digest.Next(0, 0), 3, 2, 2) {
		t.Error(d)
	}
}

// Numbers that another program has found.
func TestKnown(t *testing.T) {
	if d := chain.Digest(api.Reply{}); d != sum([]byte("0 0 0 0 0 0 0 0 0 0 0 ")) {
		t.Error(d)
	}
	if d := chain.Digest(answer); d != sum([]byte("2 3 4 5 6 600 700 8 9 1000 1100 ")) {
		t.Error(d)
	}
	if d := chain.Nonce(0, 3, 1, 2); d != 16584337935395190789 {
		t.Error(d)
	}
	if d := chain.Nonce(97, -1, 2, 30); d != sum([]byte("\x00\x00\x00\x00\x00\x00\x00a-1 2 30 ")) {
		t.Error(d)
	}
}

// P12.1: digests of replies with edges of each two integers, most of which are not well-formed, and of each nonce.
func TestDigests(t *testing.T) {
	var r api.Reply
	fields := fieldsOf(&r)
	for i, a := range fields {
		for _, b := range fields[:i+1] {
			for _, x := range a.edges {
				for _, y := range b.edges {
					r = answer
					*b.at, *a.at = y, x
					checkDigest(t, r)
				}
			}
		}
		for _, x := range a.edges {
			for _, nonce := range nonces {
				r = answer
				*a.at, r.Nonce = x, nonce
				checkDigest(t, r)
			}
		}
	}
	for _, x := range []int{math.MinInt, -1, 0, 1, math.MaxInt} {
		for _, nonce := range nonces {
			r = api.Reply{Nonce: nonce}
			for _, f := range fields {
				*f.at = x
			}
			checkDigest(t, r)
		}
	}
}

// P12.1: the digest of a reply has each of its fields: another last digit of one leads to another digest.
func TestDigestFields(t *testing.T) {
	r := answer
	for _, f := range fieldsOf(&r) {
		r = answer
		*f.at++
		if chain.Digest(r) == chain.Digest(answer) {
			t.Errorf("%s plays no part", f.name)
		}
	}
	for _, nonce := range []uint64{answer.Nonce + 1, answer.Nonce + power} {
		r = answer
		r.Nonce = nonce
		if chain.Digest(r) == chain.Digest(answer) {
			t.Errorf("the nonce %d leads to the same digest as %d", nonce, answer.Nonce)
		}
	}
}

// wild returns a reply with any integers, most of which are not well-formed.
func wild(r *rand.Rand) api.Reply {
	x := api.Reply{Nonce: r.Uint64() >> r.Intn(64)}
	for _, f := range fieldsOf(&x) {
		*f.at = int(r.Uint64()) >> r.Intn(64)
	}
	return x
}

// P12.1 and P12.2: heads of rounds with any replies, of all of them and of the first ones.
func TestHeads(t *testing.T) {
	r := rand.New(rand.NewSource(1))
	for range 300 {
		var l []api.Round
		for range r.Intn(8) {
			var round api.Round
			for range r.Intn(5) * r.Intn(5) {
				round.Replies = append(round.Replies, wild(r))
			}
			l = append(l, round)
			checkHead(t, l)
		}
	}
}

// P12.1 and P12.2: heads of empty rounds, of rounds at all places, and of more rounds and replies than a chain may have.
func TestHeadShapes(t *testing.T) {
	least, greatest := api.Reply{}, api.Reply{Nonce: math.MaxUint64}
	for _, f := range fieldsOf(&least) {
		*f.at = math.MinInt
	}
	for _, f := range fieldsOf(&greatest) {
		*f.at = math.MaxInt
	}
	one, two, none := api.Round{Replies: []api.Reply{least}}, api.Round{Replies: []api.Reply{greatest, least}}, api.Round{Replies: []api.Reply{}}
	for _, l := range [][]api.Round{
		{}, {none}, {{}, none}, {one}, {two}, {one, one}, {one, two}, {two, one},
		{{}, one}, {one, {}}, {{}, {}, one}, {{}, one, {}}, {one, {}, {}}, {one, {}, two}, {one, {}, {}, two}, {{}, one, {}, two, {}},
		{{Replies: []api.Reply{least, greatest}}}, {{Replies: []api.Reply{greatest, greatest}}},
		{{Replies: slices.Repeat([]api.Reply{answer}, 1001)}, one},
		make([]api.Round, 199), make([]api.Round, 200), make([]api.Round, 201), slices.Repeat([]api.Round{one}, 300),
	} {
		checkHead(t, l)
	}
}

// Where replies are, and in which order, plays a part.
func TestHeadsDiffer(t *testing.T) {
	a, b := reply(0, 3, 1, 1), reply(0, 3, 1, 2)
	seen := map[uint64]int{}
	for i, l := range [][]api.Round{
		{}, {{}}, {{}, {}},
		{{Replies: []api.Reply{a}}}, {{Replies: []api.Reply{b}}}, {{Replies: []api.Reply{a, b}}}, {{Replies: []api.Reply{b, a}}},
		{{Replies: []api.Reply{a}}, {}}, {{}, {Replies: []api.Reply{a}}}, {{Replies: []api.Reply{a}}, {Replies: []api.Reply{b}}},
		{{Replies: []api.Reply{a, a}}}, {{Replies: []api.Reply{a}}, {Replies: []api.Reply{a}}},
	} {
		d := chain.Head(l)
		if other, ok := seen[d]; ok {
			t.Errorf("rounds %d and %d have the same head", other, i)
		}
		seen[d] = i
	}
}

// P12.1: nonces for all heads, and any integers.
func TestNonces(t *testing.T) {
	heads := append(slices.Clone(nonces), 97, 0x0102030405060708, chain.Head([]api.Round{{}}))
	for _, head := range heads {
		for _, host := range hosts {
			for _, round := range numbers {
				for _, auth := range auths {
					if d := chain.Nonce(head, host, round, auth); d != wantNext(head, host, round, auth) {
						t.Errorf("the nonce for %d, %d, %d, %d is %d", head, host, round, auth, d)
					}
				}
			}
		}
	}
}

// P12.6: nonces of two authorities, and of two rounds, with numbers of one digit.
func TestNoncesDiffer(t *testing.T) {
	differ := func(nonce func(x int) uint64) {
		seen := map[uint64]bool{}
		for x := 1; x <= 9; x++ {
			seen[nonce(x)] = true
		}
		if len(seen) != 9 {
			t.Errorf("%d of 9 nonces are different", len(seen))
		}
	}
	r := rand.New(rand.NewSource(2))
	heads := slices.Clone(nonces)
	for range 20 {
		heads = append(heads, r.Uint64())
	}
	for _, head := range heads {
		for host := 1; host <= 64; host++ {
			for x := 1; x <= 16; x++ {
				differ(func(auth int) uint64 { return chain.Nonce(head, host, x, auth) })
				differ(func(round int) uint64 { return chain.Nonce(head, host, round, x) })
			}
			for _, x := range numbers {
				differ(func(auth int) uint64 { return chain.Nonce(head, host, x, auth) })
				differ(func(round int) uint64 { return chain.Nonce(head, host, round, x) })
			}
		}
	}
}
