package codec_test

import (
	"bytes"
	"encoding/binary"
	"hash/fnv"
	"math"
	"math/big"
	"math/rand"
	"slices"
	"testing"

	"regulator/api"
	"regulator/codec"
	"regulator/digest"
)

// Integers at which the number of bytes changes, and others.
func edges() []int {
	all := []int{
		math.MinInt, math.MinInt + 1, math.MaxInt, math.MaxInt - 1, 0, 1, -1, 2, -2, 5, -100,
		api.MaxInts, api.MaxInts + 1, -api.MaxInts, api.MaxTime, -api.MaxTime,
	}
	for bit := range 63 {
		power := 1 << bit
		all = append(all, power-1, power, power+1, -power-1, -power, -power+1)
	}
	return all
}

// lists has lists of several lengths, with integers of all lengths in bits.
func lists() [][]int {
	r := rand.New(rand.NewSource(1))
	all := [][]int{nil, {}, {0}, {0, 0}, {0, -1, 1, 64}, {128}, {-128, 127}, {math.MinInt}, edges()}
	for _, x := range edges() {
		all = append(all, []int{x}, []int{x, x}, []int{7, x, -7})
	}
	for length := range 130 {
		all = append(all, anyList(r, length))
	}
	for _, length := range []int{999, 1000} {
		all = append(all, anyList(r, length), make([]int, length), slices.Repeat([]int{math.MinInt}, length))
	}
	return all
}

func anyList(r *rand.Rand, length int) []int {
	l := make([]int, length)
	for i := range l {
		l[i] = int(r.Uint64()) >> r.Intn(64)
	}
	return l
}

// definition returns the bytes of an integer as the chapter's words say it, with integers of any length.
func definition(x int) []byte {
	n := big.NewInt(int64(x))
	n.Mul(n, big.NewInt(2))
	if x < 0 {
		n.Neg(n).Sub(n, big.NewInt(1))
	}
	base := big.NewInt(128)
	var b []byte
	for {
		digit := new(big.Int)
		n.DivMod(n, base, digit)
		if n.Sign() == 0 {
			return append(b, byte(digit.Int64()))
		}
		b = append(b, byte(digit.Int64()+128))
	}
}

// listBytes returns the bytes of a list by the definition.
func listBytes(l []int) []byte {
	b := definition(len(l))
	for _, x := range l {
		b = append(b, definition(x)...)
	}
	return b
}

// framed returns bytes with their length in front and the digest behind, whatever they are.
func framed(b []byte) []byte {
	f := append([]byte{byte(len(b) >> 16), byte(len(b) >> 8), byte(len(b))}, b...)
	h := fnv.New64a()
	h.Write(f)
	return h.Sum(f)
}

// unread returns the list of bytes as another program reads it, or false if writing this list leads to other bytes.
func unread(b []byte) ([]int, bool) {
	count, size := binary.Varint(b)
	if size <= 0 || count < 0 || count > api.MaxInts {
		return nil, false
	}
	rest := b[size:]
	l := []int{}
	for range count {
		x, size := binary.Varint(rest)
		if size <= 0 {
			return nil, false
		}
		l = append(l, int(x))
		rest = rest[size:]
	}
	return l, bytes.Equal(listBytes(l), b)
}

func put(t *testing.T, l []int) []byte {
	t.Helper()
	b, e := codec.Put(l)
	if e != api.OK {
		t.Fatalf("Put of %d integers is the error %d", len(l), e)
	}
	return b
}

func frame(t *testing.T, l []int) []byte {
	t.Helper()
	b, e := codec.Frame(l)
	if e != api.OK {
		t.Fatalf("Frame of %d integers is the error %d", len(l), e)
	}
	return b
}

// accepts checks that bytes are those of a list.
func accepts(t *testing.T, b []byte, l []int) {
	t.Helper()
	if got, e := codec.Get(b); e != api.OK || !slices.Equal(got, l) {
		t.Fatalf("Get(%v) is %v, %d, not %v", b, got, e, l)
	}
}

// refuses checks that bytes are those of no list.
func refuses(t *testing.T, b []byte) {
	t.Helper()
	if got, e := codec.Get(b); e != api.ErrForm || len(got) != 0 {
		t.Fatalf("Get(%v) is %v, %d", b, got, e)
	}
}

// begins checks that bytes begin with the frames of lists, and no more.
func begins(t *testing.T, b []byte, want [][]int, size int) {
	t.Helper()
	got, n, e := codec.Frames(b)
	if e != api.OK || n != size || !slices.EqualFunc(got, want, slices.Equal[[]int]) {
		t.Fatalf("Frames of %d bytes %v: %v, %d, %d, not %v, %d", len(b), b[:min(len(b), 40)], got, n, e, want, size)
	}
}

// join returns the frames of lists, one after the other, and the places between them.
func join(t *testing.T, all [][]int) ([]byte, []int) {
	t.Helper()
	var b []byte
	ends := []int{0}
	for _, l := range all {
		b = append(b, frame(t, l)...)
		ends = append(ends, len(b))
	}
	return b, ends
}

// P4.1: the chapter's examples.
func TestExamples(t *testing.T) {
	for _, x := range []struct {
		l []int
		b []byte
	}{
		{nil, []byte{0}},
		{[]int{0, -1, 1, 64}, []byte{8, 0, 1, 2, 128, 1}},
		{[]int{math.MinInt}, []byte{2, 255, 255, 255, 255, 255, 255, 255, 255, 255, 1}},
	} {
		if b := put(t, x.l); !bytes.Equal(b, x.b) {
			t.Error(x.l, b)
		}
		accepts(t, x.b, x.l)
	}
	refuses(t, []byte{2, 128, 0})
}

// P4.1: D1, against the definition and another program.
func TestPut(t *testing.T) {
	for _, x := range edges() {
		if b := put(t, []int{x}); !bytes.Equal(b, append([]byte{2}, definition(x)...)) {
			t.Error(x, b)
		}
	}
	for _, l := range lists() {
		b := put(t, l)
		if !bytes.Equal(b, listBytes(l)) {
			t.Error(l, b)
		}
		other := binary.AppendVarint(nil, int64(len(l)))
		for _, x := range l {
			other = binary.AppendVarint(other, int64(x))
		}
		if !bytes.Equal(b, other) {
			t.Error(l, b)
		}
	}
	for x, n := range map[int]int{0: 1, 63: 1, -64: 1, 64: 2, -65: 2, 8191: 2, -8192: 2, 8192: 3, math.MaxInt: 10, math.MinInt: 10, 1<<62 - 1: 9, -1 << 62: 9, 1 << 62: 10} {
		if b := put(t, []int{x}); len(b) != 1+n {
			t.Error(x, b)
		}
	}
}

// P4.1: D1 and D3: lists of 1000 integers, and of more.
func TestLimits(t *testing.T) {
	for _, x := range []int{0, -1, math.MaxInt, math.MinInt} {
		l := slices.Repeat([]int{x}, api.MaxInts)
		b := put(t, l)
		accepts(t, b, l)
		begins(t, frame(t, l), [][]int{l}, len(b)+11)
		for _, more := range []int{1, 2, 1000, 100000} {
			long := slices.Repeat([]int{x}, api.MaxInts+more)
			if b, e := codec.Put(long); len(b) != 0 || e != api.ErrLimit {
				t.Error(len(long), b, e)
			}
			if b, e := codec.Frame(long); len(b) != 0 || e != api.ErrLimit {
				t.Error(len(long), b, e)
			}
		}
	}
}

// P4.1: D2: what are the bytes of no list.
func TestGetInvalid(t *testing.T) {
	full := []byte{255, 255, 255, 255, 255, 255, 255, 255, 255}
	zeros := []byte{128, 128, 128, 128, 128, 128, 128, 128, 128}
	for _, b := range [][]byte{
		nil, {}, // no bytes at all
		{1}, {1, 0}, {255, 1}, append(slices.Clone(full), 1), // less than no integers
		{2}, {4, 0}, {8, 0, 1, 2}, {128}, {2, 128}, {2, 255, 255}, append([]byte{2}, full...), // ends too early
		{128, 0}, {130, 0, 0}, {2, 128, 0}, {2, 129, 0}, {2, 129, 128, 0}, {4, 0, 128, 0}, // superfluous digits
		append(slices.Clone(zeros), 0), append(append([]byte{2}, zeros...), 0), append(append([]byte{2}, full...), 0),
		append(append([]byte{2}, zeros...), 128, 0), append(append([]byte{2}, zeros...), 129, 0),
		{0, 0}, {0, 128}, {2, 0, 0}, {8, 0, 1, 2, 128, 1, 0}, {2, 5, 255}, // bytes behind
		append(slices.Clone(full), 0), append(append([]byte{2}, full...), full...),
	} {
		refuses(t, b)
	}
	for last := 2; last < 256; last++ { // more than a number of 64 bits
		for _, digits := range [][]byte{full, zeros} {
			refuses(t, slices.Concat([]byte{2}, digits, []byte{byte(last)}))
			refuses(t, slices.Concat([]byte{2}, digits, []byte{byte(last), 0}))
			refuses(t, slices.Concat([]byte{2}, digits, []byte{byte(last), 1}))
		}
	}
	accepts(t, slices.Concat([]byte{2}, zeros, []byte{1}), []int{1 << 62})
	accepts(t, slices.Concat([]byte{2}, full, []byte{1}), []int{math.MinInt})
}

// P4.1: D2: how many integers there are has to be true, and at most 1000.
func TestGetCount(t *testing.T) {
	for said := -3; said <= 1100; said++ {
		for _, there := range []int{0, 1, said - 1, said, said + 1, 1000, 1001} {
			if there < 0 {
				continue
			}
			b := append(definition(said), make([]byte, there)...)
			if said == there && said <= api.MaxInts {
				accepts(t, b, make([]int, there))
			} else {
				refuses(t, b)
			}
		}
	}
	for _, said := range []int{math.MinInt, math.MaxInt, 1 << 32, 1<<32 + 1, -1 << 32} {
		refuses(t, definition(said))
		refuses(t, append(definition(said), 0))
		refuses(t, append(definition(said), make([]byte, 1001)...))
	}
}

// same checks that bytes are read as another program reads them.
func same(t *testing.T, b []byte) bool {
	t.Helper()
	l, ok := unread(b)
	if ok {
		accepts(t, b, l)
	} else {
		refuses(t, b)
	}
	return ok
}

// P4.2: bytes that Get accepts are those of the list that it returns: all short ones, and fixed sequences of mixed ones.
func TestGetBytes(t *testing.T) {
	accepted := 0
	count := func(b []byte) {
		if same(t, b) {
			accepted++
		}
	}
	for a := range 256 {
		count([]byte{byte(a)})
		for b := range 256 {
			count([]byte{byte(a), byte(b)})
			for _, c := range []byte{0, 1, 127, 128} {
				count([]byte{2, byte(a), byte(b), c})
			}
			count([]byte{4, byte(a), byte(b)})
		}
	}
	r := rand.New(rand.NewSource(2))
	for _, l := range lists() {
		b := put(t, l)
		for range 20 {
			other := slices.Clone(b)
			for range 1 + r.Intn(3) {
				other[r.Intn(len(other))] = byte(r.Intn(256))
			}
			count(other)
		}
	}
	if accepted < 1000 {
		t.Error("only", accepted, "are bytes of lists")
	}
}

// P4.2: Get of the bytes of a list is the list.
func TestInverse(t *testing.T) {
	for _, l := range lists() {
		b := put(t, l)
		accepts(t, b, l)
		got, _ := codec.Get(b)
		if !bytes.Equal(put(t, got), b) {
			t.Error(l)
		}
	}
}

// P4.3: the bytes of a list are not the beginning of those of another one.
func TestBeginnings(t *testing.T) {
	var all [][]byte
	for _, l := range lists() {
		b := put(t, l)
		all = append(all, b)
		step := 1 + len(b)/50
		for cut := 0; cut < len(b); cut += step {
			refuses(t, b[:cut])
		}
		refuses(t, b[:len(b)-1])
		for c := range 256 {
			refuses(t, append(slices.Clone(b), byte(c)))
		}
	}
	for _, a := range all {
		for _, b := range all {
			if bytes.HasPrefix(b, a) && !bytes.Equal(a, b) {
				t.Fatal(a, b)
			}
		}
	}
}

// P4.1: D3, against the definition.
func TestFrame(t *testing.T) {
	for _, l := range lists() {
		f, b := frame(t, l), put(t, l)
		if !bytes.Equal(f, framed(listBytes(l))) {
			t.Error(l, f)
		}
		sum := binary.BigEndian.Uint64(f[len(f)-8:])
		if size := int(f[0])<<16 + int(f[1])<<8 + int(f[2]); size != len(b) || !bytes.Equal(f[3:3+size], b) || sum != digest.Sum(f[:3+size]) {
			t.Error(l, f)
		}
	}
	if f := frame(t, nil); !bytes.Equal(f[:4], []byte{0, 0, 1, 0}) || len(f) != 12 {
		t.Error(f)
	}
}

// P4.4: frames one after the other have their lists.
func TestFrames(t *testing.T) {
	begins(t, nil, nil, 0)
	begins(t, []byte{}, nil, 0)
	var some [][]int
	for _, l := range lists() {
		f := frame(t, l)
		begins(t, f, [][]int{l}, len(f))
		begins(t, append(slices.Clone(f), f...), [][]int{l, l}, 2*len(f))
		if len(l) < 100 {
			some = append(some, l)
		}
	}
	r := rand.New(rand.NewSource(3))
	for range 50 {
		r.Shuffle(len(some), func(i, k int) { some[i], some[k] = some[k], some[i] })
		all := some[:r.Intn(40)]
		b, _ := join(t, all)
		begins(t, b, all, len(b))
	}
}

// P4.1 and P4.4: 100000 bytes, and more.
func TestFramesLimit(t *testing.T) {
	all := slices.Repeat([][]int{nil}, 8332)
	all = append(all, []int{0, 0, 0, 0})
	b, _ := join(t, all)
	if len(b) != api.MaxBytes {
		t.Fatal(len(b))
	}
	begins(t, b, all, len(b))
	begins(t, b[:len(b)-1], all[:8332], 12*8332)
	begins(t, make([]byte, api.MaxBytes), nil, 0)
	begins(t, append(frame(t, []int{7}), make([]byte, api.MaxBytes-13)...), [][]int{{7}}, 13)
	for _, long := range [][]byte{append(slices.Clone(b), 0), append(slices.Clone(b), b...), make([]byte, api.MaxBytes+1), append(frame(t, nil), make([]byte, api.MaxBytes)...)} {
		if got, n, e := codec.Frames(long); len(got) != 0 || n != 0 || e != api.ErrLimit {
			t.Error(len(long), len(got), n, e)
		}
	}
}

// P4.5: frames one after the other that are cut at each byte.
func TestCuts(t *testing.T) {
	for _, all := range [][][]int{
		{nil}, {nil, nil, nil}, {{5}, nil, {-1, 300}}, {{0, -1, 1, 64}, {math.MinInt}, {math.MaxInt}, nil, {7}},
		{make([]int, 300), edges(), nil, {1}},
	} {
		b, ends := join(t, all)
		for cut := range len(b) + 1 {
			whole := 0
			for whole < len(all) && ends[whole+1] <= cut {
				whole++
			}
			begins(t, b[:cut], all[:whole], ends[whole])
			begins(t, b[:cut:cut], all[:whole], ends[whole])
		}
	}
}

// P4.6: what stands behind frames does not change their lists; what is told to be frames has the same lists alone.
func TestBehind(t *testing.T) {
	r := rand.New(rand.NewSource(4))
	for _, all := range [][][]int{nil, {nil}, {{5}, nil, {-1, 300}}, {edges(), {math.MinInt}}} {
		b, _ := join(t, all)
		f := frame(t, []int{8, 9})
		behind := [][]byte{{0}, {0, 0, 1}, {255, 255, 255}, make([]byte, 30), f[1:], f[:len(f)-1], slices.Concat(f[:len(f)-1], f), slices.Concat(f[:4], f)}
		for range 100 {
			junk := make([]byte, r.Intn(60))
			r.Read(junk)
			behind = append(behind, junk, slices.Concat(junk, f))
		}
		for _, c := range behind {
			if got, _, _ := codec.Frames(c); len(got) > 0 {
				continue
			}
			begins(t, slices.Concat(b, c), all, len(b))
			begins(t, slices.Concat(b, f, c), append(slices.Clone(all), []int{8, 9}), len(b)+len(f))
		}
	}
}

// P4.6: whatever bytes there are, those that are told to be frames are the frames of the lists.
func TestTold(t *testing.T) {
	r := rand.New(rand.NewSource(5))
	b, _ := join(t, [][]int{{5}, nil, {-1, 300}, {math.MinInt, 64}, {0, 0, 0}, edges()})
	for range 3000 {
		other := slices.Clone(b[:1+r.Intn(len(b))])
		other[r.Intn(len(other))] = byte(r.Intn(256))
		got, n, e := codec.Frames(other)
		if e != api.OK || n < 0 || n > len(other) {
			t.Fatal(n, e)
		}
		alone, _ := join(t, got)
		if !bytes.Equal(alone, other[:n]) {
			t.Fatal(other, got, n)
		}
		begins(t, other[:n], got, n)
		begins(t, other[n:], nil, 0)
	}
}

// P4.1: D4: a frame one byte of which is wrong, in its length, its bytes or its digest.
func TestFramesWrong(t *testing.T) {
	first := frame(t, []int{3})
	for _, l := range [][]int{nil, {0}, {5, -300}, edges()[:10]} {
		f := frame(t, l)
		for place := range f {
			for by := 1; by < 256; by++ {
				wrong := slices.Clone(f)
				wrong[place] ^= byte(by)
				begins(t, slices.Concat(first, wrong, first), [][]int{{3}}, len(first))
			}
		}
	}
}

// P4.1: D4: bytes with a right length and a right digest that are those of no list.
func TestFramesNoList(t *testing.T) {
	good := frame(t, []int{1, 2})
	for _, b := range [][]byte{
		nil, {1}, {2}, {0, 0}, {2, 0, 0}, {2, 128, 0}, {128, 0}, {2, 128}, {4, 1},
		{2, 255, 255, 255, 255, 255, 255, 255, 255, 255, 2},
		append(definition(1001), make([]byte, 1001)...),
		make([]byte, 70000), make([]byte, 99000),
	} {
		bad := framed(b)
		begins(t, bad, nil, 0)
		begins(t, slices.Concat(good, bad, good), [][]int{{1, 2}}, len(good))
	}
	begins(t, framed([]byte{2, 10}), [][]int{{5}}, 13)
}

// P4.1: D4: a length that says less or more than there is.
func TestFramesLength(t *testing.T) {
	b := listBytes([]int{1, 2, 3})
	for said := range 40 {
		f := append([]byte{0, 0, byte(said)}, b...)
		f = binary.BigEndian.AppendUint64(f, digest.Sum(f))
		if said == len(b) {
			begins(t, f, [][]int{{1, 2, 3}}, len(f))
		} else {
			begins(t, f, nil, 0)
		}
	}
	for _, said := range [][]byte{{255, 255, 255}, {1, 0, 0}, {0, 1, 0}, {128, 0, 4}} {
		f := append(said, b...)
		begins(t, binary.BigEndian.AppendUint64(f, digest.Sum(f)), nil, 0)
	}
}

// P4.7: an integer has no more bytes than one that is farther from 0.
func TestOrder(t *testing.T) {
	size := func(x int) int { return len(put(t, []int{x})) }
	distance := func(x int) uint64 {
		if x < 0 {
			return -uint64(x) // also of the least integer
		}
		return uint64(x)
	}
	all := edges()
	for x := -9000; x <= 9000; x += 37 {
		all = append(all, x)
	}
	for _, near := range all {
		for _, far := range all {
			if distance(near) < distance(far) && size(near) > size(far) {
				t.Fatal(near, size(near), far, size(far))
			}
		}
	}
}

// P4.7: the length of a frame is 11 and that of the bytes of its list.
func TestFrameLength(t *testing.T) {
	for _, l := range lists() {
		if f, b := frame(t, l), put(t, l); len(f) != 11+len(b) {
			t.Error(l, len(f), len(b))
		}
	}
}

// DOC.md's rules: arguments stay as they are, also behind their ends.
func TestArguments(t *testing.T) {
	for _, l := range lists() {
		if len(l) > 900 {
			continue
		}
		room := append(slices.Clone(l), 7, 7, 7)
		given := room[:len(l)]
		b, f := put(t, given), frame(t, given)
		if !slices.Equal(room, append(slices.Clone(l), 7, 7, 7)) {
			t.Fatal(l, "was modified")
		}
		for _, x := range [][]byte{b, f, b[:len(b)-1], f[:len(f)-1]} {
			space := append(slices.Clone(x), 7, 7, 7)
			codec.Get(space[:len(x)])
			codec.Frames(space[:len(x)])
			if !bytes.Equal(space, append(slices.Clone(x), 7, 7, 7)) {
				t.Fatal(x, "was modified")
			}
		}
	}
}

// DOC.md's rules: a result shares no memory with an argument, with another result, or with another part of it.
func TestMemory(t *testing.T) {
	l := []int{5, -6, 700}
	b, f := put(t, l), frame(t, l)
	other, more := put(t, l), frame(t, l)
	clear(other[:cap(other)])
	clear(more[:cap(more)])
	if !bytes.Equal(b, listBytes(l)) || !bytes.Equal(f, framed(listBytes(l))) {
		t.Error("results share memory")
	}
	got, _ := codec.Get(b)
	clear(b)
	if !slices.Equal(got, l) {
		t.Error("Get keeps its argument")
	}
	all := [][]int{nil, {1, 2, 3}, {}, {4, 5}, {6}}
	long, _ := join(t, all)
	lists, _, _ := codec.Frames(long)
	clear(long)
	for i, l := range lists {
		if !slices.Equal(l, all[i]) {
			t.Fatal(i, lists)
		}
		clear(l[:cap(l)])
	}
}
