package digest_test

import (
	"bytes"
	"encoding/binary"
	"fmt"
	"hash/fnv"
	"math"
	"math/rand"
	"slices"
	"strconv"
	"strings"
	"testing"

	"regulator/digest"
)

// empty is the digest of no bytes.
const empty = 0xcbf29ce484222325

// Two numbers whose bytes have the same digest, and two that have the same digest with a different integer behind each.
const (
	twinA = 0x6c99d796d8454130
	twinB = 0x6a94b0e8f8c21090
	oddA  = 0xe76680f9d3b81f76 // with 6 behind it
	oddB  = 0x18d9dde7573c6aff // with 9 behind it
)

// Integers whose texts differ in their length, their sign, or one digit.
var edges = []int{
	math.MinInt, math.MinInt + 1, -1234567890123456789, -1000000007, -100, -99, -12, -10, -9, -1,
	0, 1, 9, 10, 12, 99, 100, 101, 3000000000000000, 1234567890123456789, math.MaxInt - 1, math.MaxInt,
}

// Digests with bytes 0 in front, behind, and everywhere, and others.
var digests = []uint64{
	0, 1, 97, 255, 256, 0xff00, 1 << 31, 1 << 32, 1<<32 - 1, 1 << 56, 1<<56 - 1, 1 << 63, 1<<63 - 1,
	math.MaxUint64, math.MaxUint64 - 1, 0x0102030405060708, 0x0807060504030201, empty, twinA, twinB, oddA, oddB,
}

// lists has lists of integers of several lengths.
func lists() [][]int {
	r := rand.New(rand.NewSource(3))
	all := [][]int{nil, {}, {0}, {0, 0}, {1, 2}, {12}, {-12}, {1, -2}, edges}
	for _, x := range edges {
		all = append(all, []int{x}, []int{x, x}, []int{7, x, -7})
	}
	for length := range 40 {
		l := make([]int, length)
		for i := range l {
			l[i] = int(r.Uint64()) >> r.Intn(64)
		}
		all = append(all, l)
	}
	return all
}

// texts has strings of bytes of several lengths.
func texts() [][]byte {
	r := rand.New(rand.NewSource(4))
	all := [][]byte{nil, {}, {0}, {255}, {0, 0}, []byte("a"), []byte("foobar"), bytes.Repeat([]byte{0}, 40), bytes.Repeat([]byte{255}, 40)}
	for length := range 60 {
		b := make([]byte, length)
		r.Read(b)
		all = append(all, b)
	}
	return all
}

// reference is the digest as another program computes it.
func reference(b []byte) uint64 {
	h := fnv.New64a()
	h.Write(b)
	return h.Sum64()
}

// slow is the digest as the chapter's words say it, with the product modulo 2^64 put together bit by bit.
func slow(b []byte) uint64 {
	h := uint64(14695981039346656037)
	for _, c := range b {
		h ^= uint64(c)
		var product uint64
		for bit := range 64 {
			if 1099511628211>>bit&1 == 1 {
				product += h << bit
			}
		}
		h = product
	}
	return h
}

// text is the text of integers.
func text(l []int) []byte {
	var b strings.Builder
	for _, x := range l {
		fmt.Fprintf(&b, "%d ", x)
	}
	return []byte(b.String())
}

func word(d uint64) []byte { return binary.BigEndian.AppendUint64(nil, d) }

func join(parts ...[]byte) []byte { return slices.Concat(parts...) }

// changed goes through the lists that differ from l in one digit of one integer.
func changed(l []int, yield func([]int)) {
	for i, x := range l {
		old := strconv.Itoa(x)
		for place := range old {
			for digit := byte('0'); digit <= '9'; digit++ {
				if old[place] == '-' || old[place] == digit {
					continue
				}
				other := old[:place] + string(digit) + old[place+1:]
				y, e := strconv.Atoi(other)
				if e != nil || strconv.Itoa(y) != other {
					continue
				}
				m := slices.Clone(l)
				m[i] = y
				yield(m)
			}
		}
	}
}

// P3.1: the examples of the chapter, and digests that are known elsewhere.
func TestExamples(t *testing.T) {
	for s, want := range map[string]uint64{
		"":                               14695981039346656037,
		"a":                              0xaf63dc4c8601ec8c,
		"b":                              0xaf63df4c8601f1a5,
		"foobar":                         0x85944171f73967e8,
		"\x00":                           0xaf63bd4c8601b7df,
		"chongo was here!\n":             0x46810940eff5f915,
		"http://norvig.com/21-days.html": 0x07aaa640476e0b9a,
	} {
		if d := digest.Sum([]byte(s)); d != want {
			t.Errorf("%q: %x, not %x", s, d, want)
		}
	}
	if digest.Ints(12, -3) != digest.Sum([]byte("12 -3 ")) {
		t.Error("Ints")
	}
	if digest.Next(97, 5) != digest.Sum([]byte("\x00\x00\x00\x00\x00\x00\x00a5 ")) {
		t.Error("Next")
	}
	if digest.Pair(1, 2) != digest.Sum([]byte("\x01\x00\x00\x00\x00\x00\x00\x00\x01\x00\x00\x00\x00\x00\x00\x00\x02")) {
		t.Error("Pair")
	}
}

// P3.1: C1: Sum is FNV-1a with 64 bits.
func TestSum(t *testing.T) {
	for _, b := range texts() {
		if d := digest.Sum(b); d != reference(b) || d != slow(b) {
			t.Errorf("%x: %x", b, d)
		}
	}
	for c := range 256 {
		b := []byte{byte(c)}
		if d := digest.Sum(b); d != slow(b) {
			t.Errorf("%x: %x", b, d)
		}
	}
	long := make([]byte, 100000)
	rand.New(rand.NewSource(5)).Read(long)
	if digest.Sum(long) != reference(long) {
		t.Error("many bytes")
	}
}

// P3.1: no bytes and no integers at all.
func TestNothing(t *testing.T) {
	if digest.Sum(nil) != empty || digest.Sum([]byte{}) != empty {
		t.Error("Sum")
	}
	if digest.Ints() != empty || digest.Ints([]int{}...) != empty {
		t.Error("Ints")
	}
	if digest.Next(empty) != digest.Sum(word(empty)) || digest.Next(0) != digest.Sum(make([]byte, 8)) {
		t.Error("Next")
	}
	if digest.Pair(0, 0) != digest.Sum(join([]byte{1}, make([]byte, 16))) {
		t.Error("Pair")
	}
}

// P3.2: strings that differ in exactly one byte have different digests.
func TestSumOneByte(t *testing.T) {
	for _, b := range texts() {
		d := digest.Sum(b)
		for place := range b {
			for by := 1; by < 256; by++ {
				c := slices.Clone(b)
				c[place] ^= byte(by)
				if digest.Sum(c) == d {
					t.Fatalf("%x and %x", b, c)
				}
			}
		}
	}
}

// P3.2: the same bytes behind two strings make their digests neither equal nor different.
func TestSumBehind(t *testing.T) {
	all := append(texts(), word(twinA), word(twinB), []byte("8yn0iYCKYHlIj4-BwPqk"), []byte("GReLUrM4wMqfg9yzV3KQ"))
	equal := 0
	for i, a := range all {
		for _, b := range all[:i] {
			same := digest.Sum(a) == digest.Sum(b)
			if same && !bytes.Equal(a, b) {
				equal++
			}
			for _, c := range [][]byte{nil, {0}, {255}, []byte("behind"), a, b} {
				if (digest.Sum(join(a, c)) == digest.Sum(join(b, c))) != same {
					t.Fatalf("%x and %x, with %x behind", a, b, c)
				}
			}
		}
	}
	if equal != 2 {
		t.Error("strings with the same digest:", equal)
	}
}

// P3.3: Ints is the digest of the text.
func TestInts(t *testing.T) {
	for _, l := range lists() {
		if d := digest.Ints(l...); d != digest.Sum(text(l)) || d != reference(text(l)) {
			t.Error(l, d)
		}
	}
	for x, s := range map[int]string{
		0: "0 ", -1: "-1 ", 10: "10 ",
		math.MaxInt: "9223372036854775807 ",
		math.MinInt: "-9223372036854775808 ",
	} {
		if digest.Ints(x) != digest.Sum([]byte(s)) {
			t.Error(x)
		}
	}
	if digest.Ints(1, 2) == digest.Ints(12) || digest.Ints(1, 2) == digest.Ints(2, 1) || digest.Ints(0) == digest.Ints() {
		t.Error("the text has blanks, an order, and 0")
	}
	if many := make([]int, 100000); digest.Ints(many...) != digest.Sum(bytes.Repeat([]byte("0 "), len(many))) {
		t.Error("many integers")
	}
}

// P3.3: integers one of whose digits differs have another digest.
func TestIntsOneDigit(t *testing.T) {
	for _, l := range lists() {
		d := digest.Ints(l...)
		changed(l, func(m []int) {
			if digest.Ints(m...) == d {
				t.Fatal(l, m)
			}
		})
	}
}

// P3.4: Next is the digest of the bytes of the digest, the most significant one first, and of the text.
func TestNext(t *testing.T) {
	for _, d := range digests {
		for _, l := range lists() {
			if n := digest.Next(d, l...); n != digest.Sum(join(word(d), text(l))) || n != reference(join(word(d), text(l))) {
				t.Fatal(d, l, n)
			}
		}
	}
}

// P3.4: digests that differ in one byte alone, with the same integers, lead to different digests.
func TestNextOneByte(t *testing.T) {
	for _, d := range digests {
		for _, l := range [][]int{nil, {0}, {12, -3}, {math.MinInt, math.MaxInt}} {
			n := digest.Next(d, l...)
			for place := range 8 {
				for by := uint64(1); by < 256; by++ {
					if digest.Next(d^by<<(8*place), l...) == n {
						t.Fatal(d, place, by, l)
					}
				}
			}
		}
	}
}

// P3.4: integers one of whose digits differs, with the same digest, lead to different digests.
func TestNextOneDigit(t *testing.T) {
	for _, d := range []uint64{0, 97, math.MaxUint64, twinA} {
		for _, l := range lists() {
			n := digest.Next(d, l...)
			changed(l, func(m []int) {
				if digest.Next(d, m...) == n {
					t.Fatal(d, l, m)
				}
			})
		}
	}
}

// P3.5: the same integers behind two digests, each with further integers, make the results neither equal nor different.
func TestNextBehind(t *testing.T) {
	type front struct {
		d uint64
		l []int
	}
	var fronts []front
	for _, d := range digests {
		for _, l := range [][]int{nil, {6}, {9}, {0, -1}, {math.MinInt}} {
			fronts = append(fronts, front{d, l})
		}
	}
	for i, a := range fronts {
		for _, b := range fronts[:i] {
			same := digest.Next(a.d, a.l...) == digest.Next(b.d, b.l...)
			for _, l := range [][]int{nil, {0}, {12, -3}, edges} {
				after := digest.Next(a.d, append(slices.Clone(a.l), l...)...) == digest.Next(b.d, append(slices.Clone(b.l), l...)...)
				if after != same {
					t.Fatal(a, b, l)
				}
			}
		}
	}
	if digest.Next(twinA) != digest.Next(twinB) || digest.Next(twinA, 5, 6) != digest.Next(twinB, 5, 6) {
		t.Error("equal results stay equal")
	}
	if digest.Next(oddA, 6) != digest.Next(oddB, 9) || digest.Next(oddA, 6, -7) != digest.Next(oddB, 9, -7) {
		t.Error("equal results with different integers in front stay equal")
	}
	if digest.Next(oddA) == digest.Next(oddB) || digest.Next(oddA, 6) == digest.Next(oddB, 6) {
		t.Error("different results stay different")
	}
}

// P3.6: Pair is the digest of a byte 1 and the bytes of both parts.
func TestPair(t *testing.T) {
	for _, a := range digests {
		for _, b := range digests {
			all := join([]byte{1}, word(a), word(b))
			if d := digest.Pair(a, b); len(all) != 17 || d != digest.Sum(all) || d != reference(all) {
				t.Error(a, b, d)
			}
		}
	}
	if digest.Pair(1, 2) == digest.Pair(2, 1) {
		t.Error("the parts have an order")
	}
}

// P3.6: if one byte of one part differs, the digest does.
func TestPairOneByte(t *testing.T) {
	for _, a := range digests {
		for _, b := range []uint64{0, 1, math.MaxUint64, twinA, oddB} {
			d := digest.Pair(a, b)
			for place := range 8 {
				for by := uint64(1); by < 256; by++ {
					other := by << (8 * place)
					if digest.Pair(a^other, b) == d || digest.Pair(a, b^other) == d {
						t.Fatal(a, b, place, by)
					}
				}
			}
		}
	}
}

// P1: arguments are not modified, and the same arguments lead to the same result.
func TestMemory(t *testing.T) {
	for _, b := range texts() {
		room := append(slices.Clone(b), 7, 7, 7)
		given := room[:len(b)]
		if digest.Sum(given) != digest.Sum(given) || !bytes.Equal(room, append(slices.Clone(b), 7, 7, 7)) {
			t.Errorf("%x", b)
		}
	}
	for _, l := range lists() {
		room := append(slices.Clone(l), 7, 7, 7)
		given := room[:len(l)]
		if digest.Ints(given...) != digest.Ints(given...) || digest.Next(9, given...) != digest.Next(9, given...) {
			t.Error(l)
		}
		if !slices.Equal(room, append(slices.Clone(l), 7, 7, 7)) {
			t.Error(l, "was modified")
		}
	}
}
