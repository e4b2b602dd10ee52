package packet_test

import (
	"bytes"
	"encoding/binary"
	"math"
	"math/rand"
	"slices"
	"testing"

	"regulator/api"
	"regulator/packet"
)

const most = api.MaxTime

// power is 2^32.
const power = 4294967296

// Integers at which something changes, and around them.
var (
	hosts     = []int{math.MinInt, -1, 0, 1, 2, 63, 64, 65, math.MaxInt}
	auths     = []int{math.MinInt, -1, 0, 1, 2, 15, 16, 17, math.MaxInt}
	rounds    = []int{math.MinInt, -1, 0, 1, 2, 199, 200, 201, math.MaxInt}
	nonces    = []uint64{0, 1, 5, power - 1, power, power + 1, 1 << 63, 1<<63 - 1, math.MaxUint64 - power, math.MaxUint64}
	times     = []int{math.MinInt, -1, 0, 1, 1000, most - 1, most, most + 1, math.MaxInt}
	numbers   = []int{math.MinInt, -1, 0, 1, 999, 1000, 1001, math.MaxInt}
	exponents = []int{math.MinInt, -1, 0, 1, api.Q - 2, api.Q - 1, api.Q, api.P, math.MaxInt}
	halves    = []int{math.MinInt, -power, -1, 0, 1, power - 1, power, power + 1, math.MaxInt}
)

// example is the request of the chapter's example, and asked its packet.
var (
	example = api.Request{Host: 1, Auth: 2, Round: 3, Nonce: power + 5}
	asked   = []byte{1, 10, 2, 4, 6, 2, 10}
)

// answer is a reply with integers that all differ.
var answer = api.Reply{
	Host: 1, Auth: 2, Round: 3, Nonce: 4*power + 5,
	Stamp: api.Interval{Lo: 600, Hi: 700}, Key: 8, Table: 9, Sig: api.Sig{C: 1000, S: 1100},
}

// The least and the greatest packets are those of these.
var (
	leastRequest = api.Request{Host: 1, Auth: 1, Round: 1}
	mostRequest  = api.Request{Host: 64, Auth: 16, Round: 200, Nonce: math.MaxUint64}
	leastReply   = api.Reply{Host: 1, Auth: 1, Round: 1}
	mostReply    = api.Reply{
		Host: 64, Auth: 16, Round: 200, Nonce: math.MaxUint64,
		Stamp: api.Interval{Lo: most, Hi: most}, Key: 1000, Table: 1000, Sig: api.Sig{C: api.Q - 1, S: api.Q - 1},
	}
)

func within(x, low, high int) bool { return low <= x && x <= high }

// isRequest is what the chapter says of valid requests.
func isRequest(r api.Request) bool {
	return within(r.Host, 1, 64) && within(r.Auth, 1, 16) && within(r.Round, 1, 200)
}

// isReply is what the chapter says of valid replies.
func isReply(r api.Reply) bool {
	stamp := 0 <= r.Stamp.Lo && r.Stamp.Lo <= r.Stamp.Hi && r.Stamp.Hi <= 3000000000000000
	numbers := within(r.Key, 0, 1000) && within(r.Table, 0, 1000)
	return isRequest(asRequest(r)) && stamp && numbers && within(r.Sig.C, 0, 1073741788) && within(r.Sig.S, 0, 1073741788)
}

// asRequest returns the request that is answered by a reply.
func asRequest(r api.Reply) api.Request {
	return api.Request{Host: r.Host, Auth: r.Auth, Round: r.Round, Nonce: r.Nonce}
}

// requestInts and replyInts are the integers as the chapter lists them.
func requestInts(r api.Request) []int {
	return []int{r.Host, r.Auth, r.Round, int(r.Nonce / power), int(r.Nonce % power)}
}

func replyInts(r api.Reply) []int {
	return []int{
		r.Auth, r.Host, r.Round, int(r.Nonce / power), int(r.Nonce % power),
		r.Stamp.Lo, r.Stamp.Hi, r.Key, r.Table, r.Sig.C, r.Sig.S,
	}
}

// bytesOf returns a byte, and the bytes of a list as another program writes them.
func bytesOf(kind byte, l ...int) []byte {
	b := binary.AppendVarint([]byte{kind}, int64(len(l)))
	for _, x := range l {
		b = binary.AppendVarint(b, int64(x))
	}
	return b
}

// intsOf returns the integers of a packet of a kind with so many of them, or false if writing them leads to other bytes.
func intsOf(kind byte, count int, b []byte) ([]int, bool) {
	if len(b) == 0 {
		return nil, false
	}
	var l []int
	rest := b[1:]
	for len(rest) > 0 && len(l) <= count {
		x, size := binary.Varint(rest)
		if size <= 0 {
			return nil, false
		}
		l = append(l, int(x))
		rest = rest[size:]
	}
	if len(l) != count+1 {
		return nil, false
	}
	return l[1:], bytes.Equal(bytesOf(kind, l[1:]...), b)
}

// wantRequest is K2: the valid request that has these bytes.
func wantRequest(b []byte) (api.Request, api.Errno) {
	l, ok := intsOf(1, 5, b)
	if !ok {
		return api.Request{}, api.ErrForm
	}
	r := api.Request{Host: l[0], Auth: l[1], Round: l[2], Nonce: uint64(l[3])*power + uint64(l[4])}
	if !isRequest(r) || !slices.Equal(requestInts(r), l) {
		return api.Request{}, api.ErrForm
	}
	return r, api.OK
}

// wantReply is K4: the valid reply that has these bytes.
func wantReply(b []byte) (api.Reply, api.Errno) {
	l, ok := intsOf(2, 11, b)
	if !ok {
		return api.Reply{}, api.ErrForm
	}
	r := api.Reply{
		Auth: l[0], Host: l[1], Round: l[2], Nonce: uint64(l[3])*power + uint64(l[4]),
		Stamp: api.Interval{Lo: l[5], Hi: l[6]}, Key: l[7], Table: l[8], Sig: api.Sig{C: l[9], S: l[10]},
	}
	if !isReply(r) || !slices.Equal(replyInts(r), l) {
		return api.Reply{}, api.ErrForm
	}
	return r, api.OK
}

// checkRead holds what bytes are read as against the chapter, as a request and as a reply, and returns whether they are one.
func checkRead(t *testing.T, b []byte) (request, reply bool) {
	t.Helper()
	before := slices.Clone(b)
	wantR, wantE := wantRequest(b)
	if got, e := packet.GetRequest(b); got != wantR || e != wantE {
		t.Fatalf("GetRequest(%v) is %v, %d, not %v, %d", b, got, e, wantR, wantE)
	}
	wantA, wantF := wantReply(b)
	if got, e := packet.GetReply(b); got != wantA || e != wantF {
		t.Fatalf("GetReply(%v) is %v, %d, not %v, %d", b, got, e, wantA, wantF)
	}
	if !bytes.Equal(b, before) {
		t.Fatalf("reading changed %v to %v", before, b)
	}
	return wantE == api.OK, wantF == api.OK
}

// refuses checks that bytes are no packet of any kind.
func refuses(t *testing.T, b []byte) {
	t.Helper()
	if request, reply := checkRead(t, b); request || reply {
		t.Fatalf("the chapter says that %v is a packet", b)
	}
}

// checkRequest holds the packet of a request against the chapter, and what its bytes are read as; it returns whether there is one.
func checkRequest(t *testing.T, r api.Request) bool {
	t.Helper()
	b := bytesOf(1, requestInts(r)...)
	got, e := packet.PutRequest(r)
	if !isRequest(r) {
		if len(got) != 0 || e != api.ErrArg {
			t.Fatalf("PutRequest(%v) is %v, %d", r, got, e)
		}
		refuses(t, b)
		return false
	}
	if !bytes.Equal(got, b) || e != api.OK {
		t.Fatalf("PutRequest(%v) is %v, %d, not %v", r, got, e, b)
	}
	if again, e := packet.GetRequest(b); again != r || e != api.OK {
		t.Fatalf("the packet of %v is read as %v, %d", r, again, e)
	}
	checkRead(t, b)
	return true
}

// checkReply holds the packet of a reply against the chapter, and what its bytes are read as; it returns whether there is one.
func checkReply(t *testing.T, r api.Reply) bool {
	t.Helper()
	b := bytesOf(2, replyInts(r)...)
	got, e := packet.PutReply(r)
	if !isReply(r) {
		if len(got) != 0 || e != api.ErrArg {
			t.Fatalf("PutReply(%v) is %v, %d", r, got, e)
		}
		refuses(t, b)
		return false
	}
	if !bytes.Equal(got, b) || e != api.OK {
		t.Fatalf("PutReply(%v) is %v, %d, not %v", r, got, e, b)
	}
	if again, e := packet.GetReply(b); again != r || e != api.OK {
		t.Fatalf("the packet of %v is read as %v, %d", r, again, e)
	}
	checkRead(t, b)
	return true
}

// field is where an integer of a reply is, and which ones it is tried with.
type field struct {
	at    *int
	edges []int
}

// fieldsOf returns the integers of a reply, but for its nonce.
func fieldsOf(r *api.Reply) []field {
	return []field{
		{&r.Host, hosts}, {&r.Auth, auths}, {&r.Round, rounds}, {&r.Stamp.Lo, times}, {&r.Stamp.Hi, times},
		{&r.Key, numbers}, {&r.Table, numbers}, {&r.Sig.C, exponents}, {&r.Sig.S, exponents},
	}
}

// anyUpTo returns an integer from 0 to n of any length in bits, often one that is near n.
func anyUpTo(r *rand.Rand, n int) int {
	x := r.Intn(n+1) >> r.Intn(52)
	if r.Intn(2) == 0 {
		return n - x
	}
	return x
}

func anyNonce(r *rand.Rand) uint64 {
	n := r.Uint64() >> r.Intn(64)
	if r.Intn(2) == 0 {
		return ^n
	}
	return n
}

// anyReply returns a valid reply.
func anyReply(r *rand.Rand) api.Reply {
	a, b := anyUpTo(r, most), anyUpTo(r, most)
	return api.Reply{
		Host: 1 + anyUpTo(r, 63), Auth: 1 + anyUpTo(r, 15), Round: 1 + anyUpTo(r, 199), Nonce: anyNonce(r),
		Stamp: api.Interval{Lo: min(a, b), Hi: max(a, b)},
		Key:   anyUpTo(r, 1000), Table: anyUpTo(r, 1000), Sig: api.Sig{C: anyUpTo(r, api.Q-1), S: anyUpTo(r, api.Q-1)},
	}
}

// P11.1: the chapter's example, and a reply with the integers in their order.
func TestExamples(t *testing.T) {
	if b, e := packet.PutRequest(example); !bytes.Equal(b, asked) || e != api.OK {
		t.Error(b, e)
	}
	if r, e := packet.GetRequest(asked); r != example || e != api.OK {
		t.Error(r, e)
	}
	want := []byte{2, 22, 4, 2, 6, 8, 10, 0xb0, 9, 0xf8, 10, 16, 18, 0xd0, 15, 0x98, 17}
	if b, e := packet.PutReply(answer); !bytes.Equal(b, want) || e != api.OK {
		t.Error(b, e)
	}
	if r, e := packet.GetReply(want); r != answer || e != api.OK {
		t.Error(r, e)
	}
}

// P11.1 and P11.2: K1 and K2 for all edges of all fields of a request.
func TestRequests(t *testing.T) {
	seen := map[bool]int{}
	for _, host := range hosts {
		for _, auth := range auths {
			for _, round := range rounds {
				for _, nonce := range nonces {
					r := api.Request{Host: host, Auth: auth, Round: round, Nonce: nonce}
					seen[checkRequest(t, r)]++
				}
			}
		}
	}
	if seen[true] != 4*4*4*len(nonces) || seen[false] != (9*9*9-4*4*4)*len(nonces) {
		t.Error(seen)
	}
}

// P11.1 and P11.2: K1 and K2 for all hosts, authorities and rounds that there can be, and those next to them.
func TestAllRequests(t *testing.T) {
	seen := map[bool]int{}
	for host := range 66 {
		for auth := range 18 {
			for round := 0; round <= 201; round += 1 + (host+auth)%3 {
				seen[checkRequest(t, api.Request{Host: host, Auth: auth, Round: round, Nonce: uint64(host * round)})]++
			}
		}
	}
	if seen[true] < 100000 || seen[false] < 10000 {
		t.Error(seen)
	}
}

// P11.1 and P11.3: K3 and K4 for all edges of each two fields of a reply, one of which may be the nonce.
func TestReplies(t *testing.T) {
	seen := map[bool]int{}
	for _, base := range []api.Reply{leastReply, answer, mostReply} {
		r := base
		all := fieldsOf(&r)
		for i, a := range all {
			for _, x := range a.edges {
				for _, b := range all[:i+1] {
					for _, y := range b.edges {
						r = base
						*b.at, *a.at = y, x
						seen[checkReply(t, r)]++
					}
				}
				for _, nonce := range nonces {
					r = base
					*a.at, r.Nonce = x, nonce
					seen[checkReply(t, r)]++
				}
			}
		}
	}
	if seen[true] < 2000 || seen[false] < 5000 {
		t.Error(seen)
	}
}

// P11.1: which replies are valid, field by field.
func TestReplyEdges(t *testing.T) {
	for _, x := range []struct {
		name string
		set  func(r *api.Reply, x int)
		yes  []int
		no   []int
	}{
		{"Host", func(r *api.Reply, x int) { r.Host = x }, []int{1, 64}, []int{-1, 0, 65}},
		{"Auth", func(r *api.Reply, x int) { r.Auth = x }, []int{1, 16}, []int{-1, 0, 17}},
		{"Round", func(r *api.Reply, x int) { r.Round = x }, []int{1, 200}, []int{-1, 0, 201}},
		{"Lo", func(r *api.Reply, x int) { r.Stamp.Lo = x }, []int{0, 699, 700}, []int{-1, 701, most}},
		{"Hi", func(r *api.Reply, x int) { r.Stamp.Hi = x }, []int{600, 601, most}, []int{-1, 599, most + 1}},
		{"Key", func(r *api.Reply, x int) { r.Key = x }, []int{0, 1000}, []int{-1, 1001}},
		{"Table", func(r *api.Reply, x int) { r.Table = x }, []int{0, 1000}, []int{-1, 1001}},
		{"C", func(r *api.Reply, x int) { r.Sig.C = x }, []int{0, 1073741788}, []int{-1, 1073741789}},
		{"S", func(r *api.Reply, x int) { r.Sig.S = x }, []int{0, 1073741788}, []int{-1, 1073741789}},
	} {
		t.Run(x.name, func(t *testing.T) {
			for want, values := range map[bool][]int{true: x.yes, false: x.no} {
				for _, v := range values {
					r := answer
					x.set(&r, v)
					if checkReply(t, r) != want {
						t.Error(v)
					}
				}
			}
		})
	}
}

// P11.1: with several things that are not valid there is the same error, and nothing else.
func TestManyErrors(t *testing.T) {
	for _, x := range []int{math.MinInt, -1, math.MaxInt} {
		checkRequest(t, api.Request{Host: x, Auth: x, Round: x, Nonce: math.MaxUint64})
		stamp := api.Interval{Lo: x, Hi: x}
		checkReply(t, api.Reply{Auth: x, Host: x, Round: x, Nonce: 7, Stamp: stamp, Key: x, Table: x, Sig: api.Sig{C: x, S: x}})
	}
	checkRequest(t, api.Request{})
	checkReply(t, api.Reply{})
}

// P11.2 and P11.3: mixed requests and replies, of which up to two integers are moved a little.
func TestMixed(t *testing.T) {
	r := rand.New(rand.NewSource(1))
	seen := map[bool]int{}
	for range 20000 {
		reply := anyReply(r)
		fields := fieldsOf(&reply)
		for range r.Intn(3) {
			*fields[r.Intn(len(fields))].at += r.Intn(5) - 2
		}
		checkRequest(t, asRequest(reply))
		seen[checkReply(t, reply)]++
	}
	if seen[true] < 5000 || seen[false] < 1000 {
		t.Error(seen)
	}
}

// What is returned is new each time: what a caller does with a packet plays no part later.
func TestOwnBytes(t *testing.T) {
	a, _ := packet.PutRequest(example)
	b, _ := packet.PutReply(answer)
	clear(a)
	clear(b)
	checkRequest(t, example)
	checkReply(t, answer)
}
