package group_test

import (
	"fmt"
	"hash/fnv"
	"math"
	"math/big"
	"math/rand"
	"slices"
	"testing"

	"regulator/api"
	"regulator/digest"
	"regulator/group"
)

const (
	p = api.P
	q = api.Q
	g = api.G
)

// A key and a once whose signatures of these messages, each of one integer, have a challenge at an end of the exponents.
const (
	rareKey  = 123456789
	rareOnce = 987654321
)

var rare = []struct{ message, c int }{
	{11687361549, 0}, {13110446404, 0}, {49597246018, 0},
	{10520628989, 1}, {11627530753, 1}, {48934688979, 1},
	{10030500078, q - 1}, {11255228163, q - 1}, {49139590351, q - 1},
}

// Integers that are no elements: all that are not from 1 to P - 1, and those from there that are no squares.
var strangers = []int{
	math.MinInt, math.MinInt + 1, -p - 1, -p, -p + 1, -4, -2, -1, 0,
	2, 6, 8, p - 1, p - 4, p - 9, p - 16, p - 36, p,
	p + 1, p + 2, p + 4, p + 9, 2 * p, 2*p + 1, 2*p + 4, 1 << 32, 1<<32 + 4, 1 << 62, math.MaxInt - 1, math.MaxInt,
}

// Elements: squares, and what has to be added to integers that are not.
var elements = []int{1, 3, 4, 9, 16, 36, 1024, p - 2, p - 6, p - 8, p - 32, 1 << 30, 1 << 28}

var exponents = []int{0, 1, 2, 3, 4, 5, 1 << 15, 1 << 29, 1<<29 - 1, (q - 1) / 2, (q + 1) / 2, q - 3, q - 2, q - 1}

var noExponents = []int{math.MinInt, math.MinInt + 1, -q - 1, -q, -q + 1, -2, -1, q, q + 1, 1 << 30, 2*q - 1, 2 * q, p - 1, p, 1 << 32, 1<<32 + 1, math.MaxInt - 1, math.MaxInt}

var secrets = []int{1, 2, 3, 5, 7, 1 << 15, 1 << 29, rareKey, rareOnce, q - 2, q - 1}

var noSecrets = append([]int{0}, noExponents...)

// messages has messages of no integers, of one, and of many.
func messages() [][]int {
	r := rand.New(rand.NewSource(6))
	all := [][]int{nil, {}, {0}, {1}, {-1}, {12}, {1, 2}, {2, 1}, {0, 0}, {0, 0, 0}, {math.MinInt, math.MaxInt}, {g}, {p, q}, {api.MaxTime}}
	for _, size := range []int{1, 3, 7, 20, 64, 100, 1000, 3000} {
		l := make([]int, size)
		for i := range l {
			l[i] = int(r.Uint64()) >> r.Intn(64)
		}
		all = append(all, l)
	}
	return all
}

// isSquare reports by Jacobi's symbol whether an integer is an element: those are the squares.
func isSquare(a int) bool {
	return 0 < a && a < p && big.Jacobi(big.NewInt(int64(a)), big.NewInt(p)) == 1
}

// powerOf is a power modulo P as another program computes it.
func powerOf(a, x int) int {
	return int(new(big.Int).Exp(big.NewInt(int64(a)), big.NewInt(int64(x)), big.NewInt(p)).Int64())
}

// times is a product of many factors modulo m as another program computes it.
func times(m int, factors ...int) int {
	all := big.NewInt(1)
	for _, f := range factors {
		all.Mul(all, big.NewInt(int64(f)))
		all.Mod(all, big.NewInt(int64(m)))
	}
	return int(all.Int64())
}

// inverse is the number whose product with x is 1 modulo Q.
func inverse(x int) int {
	return int(new(big.Int).ModInverse(big.NewInt(int64(x)), big.NewInt(q)).Int64())
}

// mod is the remainder from 0 to q - 1.
func mod(x int) int { return ((x % q) + q) % q }

// challengeOf is the challenge of integers by their text, as the words say it.
func challengeOf(first, second int, message []int) int {
	h := fnv.New64a()
	fmt.Fprintf(h, "%d %d ", first, second)
	for _, x := range message {
		fmt.Fprintf(h, "%d ", x)
	}
	return int(h.Sum64() % q)
}

// isRight reports whether a pair of exponents is a right signature, as the words say it.
func isRight(pub int, s api.Sig, message []int) bool {
	begin := times(p, powerOf(g, s.S), powerOf(pub, (q-s.C)%q))
	return s.C == challengeOf(begin, pub, message)
}

// someElements has elements of all kinds.
func someElements() []int {
	r := rand.New(rand.NewSource(7))
	all := slices.Clone(elements)
	for range 60 {
		all = append(all, powerOf(g, r.Intn(q)))
	}
	return all
}

// someExponents has exponents of all sizes.
func someExponents() []int {
	r := rand.New(rand.NewSource(8))
	all := slices.Clone(exponents)
	for range 60 {
		all = append(all, r.Intn(q)>>r.Intn(30))
	}
	return all
}

func mul(t *testing.T, a, b int) int {
	t.Helper()
	c, e := group.Mul(a, b)
	if e != api.OK {
		t.Fatal("Mul", a, b, e)
	}
	return c
}

func exp(t *testing.T, a, x int) int {
	t.Helper()
	c, e := group.Exp(a, x)
	if e != api.OK {
		t.Fatal("Exp", a, x, e)
	}
	return c
}

func sign(t *testing.T, key, once int, message ...int) api.Sig {
	t.Helper()
	s, e := group.Sign(key, once, message...)
	if e != api.OK {
		t.Fatal("Sign", key, once, e)
	}
	return s
}

func verify(t *testing.T, pub int, s api.Sig, message ...int) bool {
	t.Helper()
	ok, e := group.Verify(pub, s, message...)
	if e != api.OK {
		t.Fatal("Verify", pub, s, e)
	}
	return ok
}

// P6.1: the examples of the chapter.
func TestExamples(t *testing.T) {
	if !group.Member(4) || !group.Member(9) || group.Member(2) || group.Member(0) {
		t.Error("members")
	}
	if c := mul(t, 4, 9); c != 36 {
		t.Error("product", c)
	}
	if c := exp(t, 4, 3); c != 64 {
		t.Error("power", c)
	}
	if !verify(t, 1024, sign(t, 5, 7, 1, 2), 1, 2) {
		t.Error("signature")
	}
}

// P6.1: F1 for the integers that the chapter's words name, and both their neighbours.
func TestMemberEdges(t *testing.T) {
	for _, a := range strangers {
		if group.Member(a) {
			t.Error(a, "is no element")
		}
	}
	for _, a := range elements {
		if !group.Member(a) {
			t.Error(a, "is an element")
		}
	}
}

// P6.1: F1 for all small integers, all near P, all negative ones near 0, and many between.
func TestMember(t *testing.T) {
	check := func(a int) {
		if got, want := group.Member(a), isSquare(a); got != want {
			t.Fatal(a, got)
		}
	}
	for x := range 5000 {
		check(x)
		check(-x)
		check(q - x)
		check(q + x)
		check(p - x)
		check(p + x)
	}
	r := rand.New(rand.NewSource(9))
	for range 20000 {
		check(int(r.Uint64()) >> r.Intn(64))
		a := 1 + r.Intn(p-1)
		check(a)
		// -1 is no square, so exactly one of a number and its opposite is one.
		if group.Member(a) == group.Member(p-a) {
			t.Fatal(a, "and its opposite")
		}
	}
}

// P6.1: F2, against products of big numbers.
func TestMul(t *testing.T) {
	l := someElements()
	for _, a := range l {
		for _, b := range l {
			if got, want := mul(t, a, b), times(p, a, b); got != want {
				t.Fatal(a, b, got, want)
			}
		}
	}
}

// P6.1: F2's error, for each of the factors and both.
func TestMulErrors(t *testing.T) {
	check := func(a, b int) {
		if c, e := group.Mul(a, b); c != 0 || e != api.ErrArg {
			t.Error(a, b, c, e)
		}
	}
	for _, a := range strangers {
		for _, b := range elements {
			check(a, b)
			check(b, a)
		}
		for _, b := range strangers {
			check(a, b)
		}
	}
}

// P6.1: F3, against powers of big numbers.
func TestExp(t *testing.T) {
	for _, a := range someElements() {
		for _, x := range someExponents() {
			if got, want := exp(t, a, x), powerOf(a, x); got != want {
				t.Fatal(a, x, got, want)
			}
		}
	}
}

// P6.1: F3 for all small exponents, by repeated multiplication.
func TestExpByFactors(t *testing.T) {
	for _, a := range []int{1, 3, g, p - 2, 1 << 30} {
		want := 1
		for x := range 3000 {
			if got := exp(t, a, x); got != want {
				t.Fatal(a, x, got, want)
			}
			want = want * a % p
		}
	}
}

// P6.1: F3's error, for the element, the exponent, and both.
func TestExpErrors(t *testing.T) {
	check := func(a, x int) {
		if c, e := group.Exp(a, x); c != 0 || e != api.ErrArg {
			t.Error(a, x, c, e)
		}
	}
	for _, a := range strangers {
		for _, x := range exponents {
			check(a, x)
		}
		for _, x := range noExponents {
			check(a, x)
		}
	}
	for _, a := range elements {
		for _, x := range noExponents {
			check(a, x)
		}
	}
}

// P6.1: F4, with C and S computed from the words.
func TestSign(t *testing.T) {
	for _, key := range secrets {
		for _, once := range secrets {
			for _, message := range messages() {
				c := challengeOf(powerOf(g, once), powerOf(g, key), message)
				want := api.Sig{C: c, S: mod(once + times(q, c, key))}
				if got := sign(t, key, once, message...); got != want {
					t.Fatal(key, once, len(message), got, want)
				}
			}
		}
	}
}

// P6.1: a signature that has been computed by hand, so that the test does not rest on its own arithmetic alone.
func TestSignKnown(t *testing.T) {
	// 4^7 is 16384 and 4^5 is 1024.
	c := int(digest.Sum([]byte("16384 1024 1 2 ")) % q)
	if got, want := sign(t, 5, 7, 1, 2), (api.Sig{C: c, S: (7 + 5*c) % q}); got != want {
		t.Error(got, want)
	}
	c = int(digest.Sum([]byte("16384 1024 ")) % q)
	if got, want := sign(t, 5, 7), (api.Sig{C: c, S: (7 + 5*c) % q}); got != want {
		t.Error(got, want)
	}
}

// P6.1: F4's error, for the key, the once, and both.
func TestSignErrors(t *testing.T) {
	check := func(key, once int) {
		for _, message := range [][]int{nil, {1}, {1, 2, 3}} {
			if s, e := group.Sign(key, once, message...); s != (api.Sig{}) || e != api.ErrArg {
				t.Error(key, once, s, e)
			}
		}
	}
	for _, a := range noSecrets {
		for _, b := range secrets {
			check(a, b)
			check(b, a)
		}
		for _, b := range noSecrets {
			check(a, b)
		}
	}
}

// P6.1: F5's error, for the element, each exponent, and several of them.
func TestVerifyErrors(t *testing.T) {
	check := func(pub, c, s int) {
		for _, message := range [][]int{nil, {1}, {1, 2, 3}} {
			if ok, e := group.Verify(pub, api.Sig{C: c, S: s}, message...); ok || e != api.ErrArg {
				t.Error(pub, c, s, ok, e)
			}
		}
	}
	for _, pub := range strangers {
		check(pub, 0, 0)
		check(pub, 1, q-1)
		check(pub, -1, q)
	}
	for _, pub := range elements {
		for _, x := range noExponents {
			check(pub, x, 0)
			check(pub, x, 1)
			check(pub, x, q-1)
			check(pub, 0, x)
			check(pub, 1, x)
			check(pub, q-1, x)
			check(pub, x, x)
		}
	}
}

// P6.1: the exponents of a right signature that are Q too great or too small are no exponents, and its element plus P is none.
func TestVerifyShifted(t *testing.T) {
	for _, message := range messages() {
		s := sign(t, 5, 7, message...)
		for _, other := range []api.Sig{{C: s.C + q, S: s.S}, {C: s.C - q, S: s.S}, {C: s.C, S: s.S + q}, {C: s.C, S: s.S - q}} {
			if ok, e := group.Verify(1024, other, message...); ok || e != api.ErrArg {
				t.Error(other, ok, e)
			}
		}
		for _, pub := range []int{1024 + p, 1024 - p, p - 1024} {
			if ok, e := group.Verify(pub, s, message...); ok || e != api.ErrArg {
				t.Error(pub, ok, e)
			}
		}
	}
}

// P6.2: products and powers are elements, and the rules for powers of products, of sums and of powers hold.
func TestPowers(t *testing.T) {
	r := rand.New(rand.NewSource(10))
	l, m := someElements(), someExponents()
	for range 4000 {
		a, b := l[r.Intn(len(l))], l[r.Intn(len(l))]
		x, y := m[r.Intn(len(m))], m[r.Intn(len(m))]
		product, first, second := mul(t, a, b), exp(t, a, x), exp(t, a, y)
		if !group.Member(product) || !group.Member(first) || !group.Member(second) {
			t.Fatal(a, b, x, y, "leave the group")
		}
		if mul(t, first, second) != exp(t, a, (x+y)%q) {
			t.Fatal(a, x, y, "sum")
		}
		if exp(t, first, y) != exp(t, a, times(q, x, y)) {
			t.Fatal(a, x, y, "product")
		}
		if exp(t, product, x) != mul(t, first, exp(t, b, x)) {
			t.Fatal(a, b, x, "power of a product")
		}
		if product != mul(t, b, a) {
			t.Fatal(a, b, "order of factors")
		}
	}
}

// P6.3: the power Q - 1 is what cancels an element, also as a factor of a product.
func TestCancel(t *testing.T) {
	l := someElements()
	for _, a := range l {
		back := exp(t, a, q-1)
		if mul(t, a, back) != 1 || mul(t, back, a) != 1 {
			t.Fatal(a, back)
		}
		products := map[int]int{}
		for _, b := range l {
			c := mul(t, a, b)
			if mul(t, back, c) != b {
				t.Fatal(a, b, c)
			}
			if other, ok := products[c]; ok && other != b {
				t.Fatal(a, b, other, "have the same product")
			}
			products[c] = b
		}
	}
}

// P6.3: different exponents lead to different powers of every element but 1, all powers of which are 1.
func TestOrder(t *testing.T) {
	r := rand.New(rand.NewSource(11))
	asked := map[int]bool{}
	for x := range 2000 {
		asked[x], asked[q-1-x], asked[r.Intn(q)] = true, true, true
	}
	for _, a := range []int{3, g, 9, p - 2, 1 << 30, powerOf(g, r.Intn(q))} {
		powers := map[int]int{}
		for x := range asked {
			c := exp(t, a, x)
			if other, ok := powers[c]; ok {
				t.Fatal(a, x, other, "have the same power")
			}
			powers[c] = x
		}
	}
	for x := range asked {
		if c := exp(t, 1, x); c != 1 {
			t.Fatal(x, c)
		}
	}
}

// P6.4: what was signed is right for G ^ key.
func TestSigned(t *testing.T) {
	for _, key := range secrets {
		pub := exp(t, g, key)
		for _, once := range secrets {
			for _, message := range messages() {
				if !verify(t, pub, sign(t, key, once, message...), message...) {
					t.Fatal(key, once, len(message))
				}
			}
		}
	}
}

// P6.4: pairs near a right one are right exactly if the words say so.
func TestNearPairs(t *testing.T) {
	for _, key := range []int{1, 5, q - 1} {
		pub := exp(t, g, key)
		for _, message := range messages() {
			s := sign(t, key, 7, message...)
			for _, other := range []api.Sig{
				{C: mod(s.C + 1), S: s.S}, {C: mod(s.C - 1), S: s.S}, {C: s.C, S: mod(s.S + 1)}, {C: s.C, S: mod(s.S - 1)},
				{C: mod(s.C + 1), S: mod(s.S + key)}, {C: mod(s.C - 1), S: mod(s.S - key)},
				{C: s.S, S: s.C}, {C: mod(-s.C), S: s.S}, {C: s.C, S: mod(-s.S)}, {C: 0, S: s.S}, {C: s.C, S: 0}, {C: 0, S: 7}, {},
			} {
				got := verify(t, pub, other, message...)
				if got != isRight(pub, other, message) {
					t.Fatal(key, len(message), s, other, got)
				}
				if got && other != s {
					t.Fatal(key, len(message), s, other, "is right")
				}
			}
		}
	}
}

// P6.4: any pair of exponents, for any element, is right exactly if C is the challenge; for 1 and every S there is a C that is.
func TestAnyPair(t *testing.T) {
	r := rand.New(rand.NewSource(12))
	for _, pub := range someElements() {
		for range 20 {
			message := []int{r.Int(), -r.Int()}
			s := api.Sig{C: r.Intn(q), S: r.Intn(q)}
			if got := verify(t, pub, s, message...); got != isRight(pub, s, message) {
				t.Fatal(pub, s, got)
			}
		}
	}
	for _, x := range someExponents() {
		s := api.Sig{C: challengeOf(powerOf(g, x), 1, []int{3}), S: x}
		if !verify(t, 1, s, 3) {
			t.Fatal(s, "is right for 1")
		}
		s.C = mod(s.C + 1)
		if verify(t, 1, s, 3) {
			t.Fatal(s, "is not right for 1")
		}
	}
}

// P6.4: a signature is not right for another element than that of its key.
func TestOtherElement(t *testing.T) {
	for _, message := range messages() {
		s := sign(t, 5, 7, message...)
		for _, pub := range someElements() {
			got := verify(t, pub, s, message...)
			if got != isRight(pub, s, message) || got != (pub == 1024) {
				t.Fatal(pub, len(message), got)
			}
		}
	}
}

// P6.4: challenges 0, 1 and Q - 1, of which 0 asks for the exponent Q, that is 0.
func TestRareChallenges(t *testing.T) {
	pub := exp(t, g, rareKey)
	for _, c := range rare {
		s := sign(t, rareKey, rareOnce, c.message)
		if want := (api.Sig{C: c.c, S: mod(rareOnce + times(q, c.c, rareKey))}); s != want {
			t.Fatal(c, s)
		}
		if !verify(t, pub, s, c.message) {
			t.Fatal(c, s, "is right")
		}
		if verify(t, pub, s, c.message+1) {
			t.Fatal(c, s, "is right for another message")
		}
	}
	for _, pub := range elements {
		for _, x := range exponents {
			// No digest of these is 0 modulo Q.
			if verify(t, pub, api.Sig{C: 0, S: x}, 1, 2, 3) {
				t.Fatal(pub, x, "is right with the challenge 0")
			}
		}
	}
}

// P6.5: messages that differ in little have other challenges here, and a signature is right for those with the same one alone.
func TestOtherMessage(t *testing.T) {
	all := append(messages(), []int{1, 2, 0}, []int{0, 1, 2}, []int{-1, 2}, []int{1, -2}, []int{11, 2}, []int{1, 22}, []int{1, 1, 2})
	for _, message := range all {
		s := sign(t, 5, 7, message...)
		for _, other := range all {
			same := challengeOf(16384, 1024, message) == challengeOf(16384, 1024, other)
			if same != slices.Equal(message, other) {
				t.Fatal("the challenges of", message, other)
			}
			if verify(t, 1024, s, other...) != same {
				t.Fatal(message, other, !same)
			}
		}
	}
}

// P6.5: a signature is right for another message with the same challenge; among some ten thousand messages there are some.
func TestSameChallenge(t *testing.T) {
	seen := map[int]int{}
	pairs := 0
	for x := range 200000 {
		c := challengeOf(16384, 1024, []int{x, -x})
		other, ok := seen[c]
		seen[c] = x
		if !ok {
			continue
		}
		pairs++
		s := sign(t, 5, 7, x, -x)
		if s != sign(t, 5, 7, other, -other) || !verify(t, 1024, s, other, -other) || !verify(t, 1024, s, x, -x) {
			t.Fatal(x, other, "have the same challenge")
		}
		if verify(t, 1024, s, x+1, -x) {
			t.Fatal(x, "is right for another message")
		}
	}
	if pairs == 0 {
		t.Error("no two messages have the same challenge")
	}
}

// P6.6: two messages that are signed with the same once show the secret.
func TestExtraction(t *testing.T) {
	for _, key := range secrets {
		for _, once := range secrets {
			for x := range 20 {
				first, second := sign(t, key, once, x), sign(t, key, once, x, -1)
				if first.C == second.C {
					t.Fatal(key, once, x, "have the same challenge")
				}
				if got := times(q, mod(first.S-second.S), inverse(mod(first.C-second.C))); got != key {
					t.Fatal(key, once, x, got)
				}
			}
		}
	}
}

// P6.6: with different onces the same quotient shows something else, so that the once is what matters.
func TestOtherOnce(t *testing.T) {
	first, second := sign(t, rareKey, 7, 1), sign(t, rareKey, 8, 2)
	if got := times(q, mod(first.S-second.S), inverse(mod(first.C-second.C))); got == rareKey {
		t.Error(first, second)
	}
}

// P6.1: a message is not changed, and neither is what is behind it in the same memory; the same call has the same result again.
func TestArguments(t *testing.T) {
	room := []int{1, 2, 3, 4, 5, 6, 7, 8}
	kept := slices.Clone(room)
	for size := range len(room) {
		message := room[:size]
		s := sign(t, 5, 7, message...)
		if !verify(t, 1024, s, message...) || s != sign(t, 5, 7, message...) {
			t.Error(size)
		}
	}
	if !slices.Equal(room, kept) {
		t.Error(room)
	}
}

// P6.1: a message may have any length.
func TestLongMessage(t *testing.T) {
	message := make([]int, 300000)
	for i := range message {
		message[i] = i * i
	}
	s := sign(t, 5, 7, message...)
	if s.C != challengeOf(16384, 1024, message) || !verify(t, 1024, s, message...) {
		t.Error(s)
	}
	message[len(message)-1]++
	if verify(t, 1024, s, message...) {
		t.Error("another message")
	}
}

// P1: no argument makes a function panic, and with an error the other result is zero.
func TestAnyArguments(t *testing.T) {
	r := rand.New(rand.NewSource(13))
	pool := slices.Concat(strangers, elements, exponents, noExponents, secrets)
	pick := func() int {
		if r.Intn(4) == 0 {
			return int(r.Uint64()) >> r.Intn(64)
		}
		return pool[r.Intn(len(pool))]
	}
	isExponent := func(x int) bool { return 0 <= x && x < q }
	isSecret := func(x int) bool { return 0 < x && x < q }
	for range 30000 {
		a, b, c := pick(), pick(), pick()
		if got, e := group.Mul(a, b); (e == api.OK) != (isSquare(a) && isSquare(b)) || e != api.OK && (got != 0 || e != api.ErrArg) {
			t.Fatal("Mul", a, b, got, e)
		}
		if got, e := group.Exp(a, b); (e == api.OK) != (isSquare(a) && isExponent(b)) || e != api.OK && (got != 0 || e != api.ErrArg) {
			t.Fatal("Exp", a, b, got, e)
		}
		if got, e := group.Sign(a, b, c); (e == api.OK) != (isSecret(a) && isSecret(b)) || e != api.OK && (got != api.Sig{} || e != api.ErrArg) {
			t.Fatal("Sign", a, b, got, e)
		}
		s := api.Sig{C: b, S: c}
		if got, e := group.Verify(a, s, b); (e == api.OK) != (isSquare(a) && isExponent(b) && isExponent(c)) || e != api.OK && (got || e != api.ErrArg) {
			t.Fatal("Verify", a, s, got, e)
		}
	}
}
