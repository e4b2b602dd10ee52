package packet_test

import (
	"bytes"
	"fmt"
	"math"
	"math/rand"
	"slices"
	"testing"

	"regulator/api"
	"regulator/packet"
)

// sample is a valid request or reply, with its packet.
type sample struct {
	reply bool
	b     []byte
}

// samples has packets of the least and of the greatest size, and others.
func samples() []sample {
	requests := []api.Request{leastRequest, mostRequest, example, {Host: 64, Auth: 1, Round: 64, Nonce: 63}}
	replies := []api.Reply{leastReply, mostReply, answer}
	r := rand.New(rand.NewSource(2))
	for range 20 {
		replies = append(replies, anyReply(r))
	}
	var all []sample
	for _, r := range requests {
		all = append(all, sample{false, bytesOf(1, requestInts(r)...)})
	}
	for _, r := range replies {
		all = append(all, sample{true, bytesOf(2, replyInts(r)...)}, sample{false, bytesOf(1, requestInts(asRequest(r))...)})
	}
	return all
}

// P11.4 and P11.1: the packet of a request is none of a reply, and the other way round.
func TestKinds(t *testing.T) {
	for _, s := range samples() {
		request, reply := checkRead(t, s.b)
		if request == s.reply || reply != s.reply {
			t.Errorf("%v is read as a request: %t, as a reply: %t", s.b, request, reply)
		}
	}
}

// P11.1 and P11.4: what is behind each first byte counts only for its own kind.
func TestFirstByte(t *testing.T) {
	request, reply := requestInts(example), replyInts(answer)
	for first := range 256 {
		kind := byte(first)
		isOne, isOther := checkRead(t, bytesOf(kind, request...))
		if isOne != (first == 1) || isOther {
			t.Errorf("a request with the byte %d is read as a request: %t, as a reply: %t", first, isOne, isOther)
		}
		isOther, isOne = checkRead(t, bytesOf(kind, reply...))
		if isOne != (first == 2) || isOther {
			t.Errorf("a reply with the byte %d is read as a request: %t, as a reply: %t", first, isOther, isOne)
		}
		refuses(t, []byte{kind})
		refuses(t, []byte{kind, 0})
		// The bytes of the list alone.
		refuses(t, append(bytesOf(10, request[1:]...), kind))
	}
}

// P11.1: no bytes are no packet, nor are the bytes of a list without a kind.
func TestNoBytes(t *testing.T) {
	refuses(t, nil)
	refuses(t, []byte{})
	refuses(t, bytesOf(1, requestInts(example)...)[1:])
	refuses(t, bytesOf(2, replyInts(answer)...)[1:])
}

// P11.1: lists of any other number of integers, and lists that say that they have another one.
func TestCounts(t *testing.T) {
	r := replyInts(answer)
	for kind := byte(1); kind <= 2; kind++ {
		for count := range 40 {
			l := append(slices.Clone(r), make([]int, 40)...)[:count]
			request, reply := checkRead(t, bytesOf(kind, l...))
			if request != (kind == 1 && count == 5) || reply != (kind == 2 && count == 11) {
				t.Errorf("kind %d with %d integers is read as a request: %t, as a reply: %t", kind, count, request, reply)
			}
		}
		for _, count := range []int{999, 1000, 1001, 5000} {
			refuses(t, bytesOf(kind, slices.Repeat([]int{1}, count)...))
		}
	}
	for _, said := range []byte{1, 3, 6, 8, 9, 11, 12, 14, 20, 21, 23, 24, 26, 127} {
		for _, s := range samples() {
			b := slices.Clone(s.b)
			b[1] = said
			refuses(t, b)
		}
	}
}

// P11.1 and P11.2: halves of nonces that are no halves, though numbers can be put together of some of them.
func TestHalves(t *testing.T) {
	request, reply := requestInts(example), replyInts(answer)
	seen := 0
	for _, high := range halves {
		for _, low := range halves {
			request[3], request[4] = high, low
			reply[3], reply[4] = high, low
			want := within(high, 0, power-1) && within(low, 0, power-1)
			isRequest, _ := checkRead(t, bytesOf(1, request...))
			_, isReply := checkRead(t, bytesOf(2, reply...))
			if isRequest != want || isReply != want {
				t.Errorf("halves %d and %d of a request: %t, of a reply: %t", high, low, isRequest, isReply)
			}
			if want {
				seen++
			}
		}
	}
	if seen != 9 {
		t.Error(seen)
	}
}

// P11.1: each integer of a packet, replaced by all edges of all fields.
func TestOneInteger(t *testing.T) {
	edges := slices.Concat(hosts, auths, rounds, times, numbers, exponents, halves)
	requests, replies := 0, 0
	for _, base := range []api.Reply{leastReply, answer, mostReply} {
		for kind, l := range map[byte][]int{1: requestInts(asRequest(base)), 2: replyInts(base)} {
			for i, old := range l {
				for _, x := range edges {
					l[i] = x
					request, reply := checkRead(t, bytesOf(kind, l...))
					if request {
						requests++
					}
					if reply {
						replies++
					}
				}
				l[i] = old
			}
		}
	}
	if requests < 100 || replies < 100 {
		t.Error(requests, replies)
	}
}

// longer goes through the bytes of integers as another number of digits has them, one integer after the other.
func longer(b []byte, yield func(b []byte)) {
	for i := 1; i < len(b); i++ {
		if b[i] >= 128 {
			continue
		}
		for _, tail := range [][]byte{{0}, {128, 0}, {128, 128, 128, 128, 128, 128, 128, 128, 0}} {
			more := append(slices.Clone(b[:i]), b[i]+128)
			yield(slices.Concat(more, tail, b[i+1:]))
		}
	}
}

// P11.1, P11.2 and P11.3: integers that are no shortest form, also how many there are.
func TestShortest(t *testing.T) {
	count := 0
	for _, s := range samples() {
		longer(s.b, func(b []byte) {
			refuses(t, b)
			count++
		})
	}
	if count < 100 {
		t.Error(count)
	}
}

// P11.5: packets that are cut at each place, in front or behind, or have bytes behind or in front of them.
func TestCuts(t *testing.T) {
	for _, s := range samples() {
		for i := range s.b {
			refuses(t, s.b[:i])
			// A list that is cut in front could only be a packet if it began with a kind, and a count.
			if i > 0 {
				checkRead(t, s.b[i:])
			}
		}
		for x := range 256 {
			refuses(t, append(slices.Clone(s.b), byte(x)))
			refuses(t, append(slices.Clone(s.b), byte(x), 0))
		}
		for _, more := range samples() {
			refuses(t, slices.Concat(s.b, more.b))
		}
		refuses(t, append(slices.Clone(s.b), make([]byte, 100000)...))
	}
}

// P11.2 and P11.3: packets of which one byte is replaced by each other one, is left out, or is there twice.
func TestOneByte(t *testing.T) {
	packets := 0
	for _, s := range samples() {
		for i := range s.b {
			for x := range 256 {
				b := slices.Clone(s.b)
				b[i] = byte(x)
				if request, reply := checkRead(t, b); request || reply {
					packets++
				}
			}
			checkRead(t, slices.Delete(slices.Clone(s.b), i, i+1))
			checkRead(t, slices.Insert(slices.Clone(s.b), i, s.b[i]))
		}
	}
	if packets < 10000 {
		t.Error(packets)
	}
}

// P1: any bytes, with a beginning like that of a packet or not, are read without a panic, as the chapter says.
func TestAnyBytes(t *testing.T) {
	r := rand.New(rand.NewSource(3))
	packets := 0
	for range 100000 {
		b := make([]byte, r.Intn(60))
		for i := range b {
			b[i] = byte(r.Uint32()) >> r.Intn(8)
		}
		if len(b) > 1 && r.Intn(8) > 0 {
			kind := 1 + r.Intn(2)
			b = b[:min(len(b), 6*kind+r.Intn(4))]
			for i := range b {
				b[i] &= 0xfe
			}
			b[0], b[1] = byte(kind), byte(12*kind-2)
		}
		if request, reply := checkRead(t, b); request || reply {
			packets++
		}
	}
	if packets < 1000 {
		t.Error(packets)
	}
	for kind := byte(1); kind <= 2; kind++ {
		refuses(t, append([]byte{kind}, bytes.Repeat([]byte{0xff}, 1000000)...))
		refuses(t, append([]byte{kind}, bytes.Repeat([]byte{10}, 1000000)...))
		refuses(t, append([]byte{kind, 0xd0, 15}, make([]byte, 1000000)...))
	}
}

// P11.6: two requests, or two replies, that differ in one field have different packets.
func TestFields(t *testing.T) {
	base := fmt.Sprint(answer)
	packets := map[string]string{}
	add := func(r api.Reply) {
		checkReply(t, r)
		checkRequest(t, asRequest(r))
		b, _ := packet.PutReply(r)
		request, _ := packet.PutRequest(asRequest(r))
		for text, whose := range map[string]string{string(b): fmt.Sprint(r), string(request): fmt.Sprint(asRequest(r))} {
			if other := packets[text]; other != "" && other != whose {
				t.Errorf("%s and %s have the same packet", other, whose)
			}
			packets[text] = whose
		}
	}
	r := answer
	for _, f := range fieldsOf(&r) {
		for step := -1; step <= 90; step++ {
			r = answer
			*f.at = max(*f.at+step, 1)
			if isReply(r) {
				add(r)
			}
		}
	}
	for bit := range 64 {
		r = answer
		r.Nonce ^= 1 << bit
		add(r)
	}
	if fmt.Sprint(answer) != base || len(packets) < 600 {
		t.Error(len(packets))
	}
}

// P11.6: of all small requests no two have the same packet.
func TestSmallRequests(t *testing.T) {
	packets := map[string]bool{}
	count := 0
	for host := 1; host <= 8; host++ {
		for auth := 1; auth <= 8; auth++ {
			for round := 1; round <= 8; round++ {
				for _, nonce := range nonces {
					b, _ := packet.PutRequest(api.Request{Host: host, Auth: auth, Round: round, Nonce: nonce})
					packets[string(b)] = true
					count++
				}
			}
		}
	}
	if len(packets) != count {
		t.Error(len(packets), count)
	}
}

// P11.7: the least and the greatest sizes are those of some packets, and all packets are within them.
func TestSizes(t *testing.T) {
	for _, x := range []struct {
		request api.Request
		size    int
	}{
		{leastRequest, 7},
		{example, 7},
		{api.Request{Host: 63, Auth: 16, Round: 63, Nonce: 63}, 7},
		{api.Request{Host: 64, Auth: 16, Round: 63, Nonce: 63}, 8},
		{api.Request{Host: 63, Auth: 16, Round: 64, Nonce: 63}, 8},
		{api.Request{Host: 63, Auth: 16, Round: 63, Nonce: 64}, 8},
		{api.Request{Host: 1, Auth: 1, Round: 1, Nonce: power - 1}, 11},
		{api.Request{Host: 1, Auth: 1, Round: 1, Nonce: power}, 7},
		{api.Request{Host: 1, Auth: 1, Round: 1, Nonce: math.MaxUint64}, 15},
		{mostRequest, 17},
	} {
		if b, e := packet.PutRequest(x.request); len(b) != x.size || e != api.OK {
			t.Errorf("the packet of %v has %d bytes", x.request, len(b))
		}
	}
	for _, x := range []struct {
		reply api.Reply
		size  int
	}{{leastReply, 13}, {answer, 17}, {mostReply, 47}} {
		if b, e := packet.PutReply(x.reply); len(b) != x.size || e != api.OK {
			t.Errorf("the packet of %v has %d bytes", x.reply, len(b))
		}
	}
	r := rand.New(rand.NewSource(4))
	for range 20000 {
		reply := anyReply(r)
		b, e := packet.PutReply(reply)
		if e != api.OK || len(b) < 13 || len(b) > 47 {
			t.Fatalf("the packet of %v has %d bytes", reply, len(b))
		}
		b, e = packet.PutRequest(asRequest(reply))
		if e != api.OK || len(b) < 7 || len(b) > 17 {
			t.Fatalf("the packet of %v has %d bytes", asRequest(reply), len(b))
		}
	}
}
