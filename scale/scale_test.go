package scale_test

import (
	"math"
	"math/big"
	"math/rand"
	"slices"
	"testing"

	"regulator/api"
	"regulator/scale"
)

const most = api.MaxTime

// sample is the arguments of one call.
type sample struct{ a, n, d int }

type function struct {
	name string
	call func(a, n, d int) (int, api.Errno)
}

func functions() []function {
	return []function{{"Floor", scale.Floor}, {"Ceil", scale.Ceil}, {"Near", scale.Near}}
}

// Times and factors at which something changes, invalid ones among them.
var (
	times = []int{
		math.MinInt, math.MinInt + 1, -most - 1, -most, -most + 1, -1500000000000001, -1500000000000000, -1000000001,
		-8, -7, -6, -5, -4, -3, -2, -1, 0, 1, 2, 3, 4, 5, 6, 7, 8,
		1000000001, 1500000000000000, 1500000000000001, most - 1, most, most + 1, math.MaxInt - 1, math.MaxInt,
	}
	factors = []int{
		math.MinInt, -2, -1, 0, 1, 2, 3, 4, 5, 6, 7, 999999999, 1000000000, 1000000001, 1000050000,
		1999999999, api.MaxFactor, api.MaxFactor + 1, math.MaxInt,
	}
)

func isTime(x int) bool { return -most <= x && x <= most }

func isFactor(x int) bool { return 0 <= x && x <= api.MaxFactor }

func (s sample) valid() bool { return isTime(s.a) && isFactor(s.n) && isFactor(s.d) && s.d > 0 }

// edges goes through all calls with the times and factors above.
func edges(yield func(sample) bool) {
	for _, a := range times {
		for _, n := range factors {
			for _, d := range factors {
				if !yield(sample{a, n, d}) {
					return
				}
			}
		}
	}
}

// samples goes through valid arguments: edges, small ones, and a fixed sequence of mixed ones.
func samples(yield func(sample) bool) {
	for s := range edges {
		if s.valid() && !yield(s) {
			return
		}
	}
	for a := -12; a <= 12; a++ {
		for n := range 7 {
			for d := range 8 {
				if !yield(sample{a, n, d + 1}) {
					return
				}
			}
		}
	}
	r := rand.New(rand.NewSource(1))
	for range 20000 {
		if !yield(sample{anyTime(r), anyFactor(r, 0), anyFactor(r, 1)}) {
			return
		}
	}
}

// anyTime returns a time of any length in bits.
func anyTime(r *rand.Rand) int {
	return (r.Intn(2*most+1) - most) >> r.Intn(52)
}

// anyFactor returns a factor of any length in bits, from least on.
func anyFactor(r *rand.Rand, least int) int {
	return max(least, r.Intn(api.MaxFactor+1)>>r.Intn(32))
}

// rounded computes with integers of any length what a function returns for valid arguments.
func rounded(name string, s sample) (int, api.Errno) {
	n := new(big.Int).Mul(big.NewInt(int64(s.a)), big.NewInt(int64(s.n)))
	d := big.NewInt(int64(s.d))
	switch sign := big.NewInt(int64(n.Sign())); name {
	case "Floor":
		n.Div(n, d)
	case "Ceil":
		n.Neg(n.Div(n.Neg(n), d))
	case "Near": // the absolute value and a half, rounded down
		two := big.NewInt(2)
		n.Abs(n).Mul(n, two).Add(n, d).Div(n, d.Mul(d, two)).Mul(n, sign)
	}
	if !n.IsInt64() || !isTime(int(n.Int64())) {
		return 0, api.ErrRange
	}
	return int(n.Int64()), api.OK
}

func check(t *testing.T, f function, s sample, result int, e api.Errno) {
	t.Helper()
	if x, g := f.call(s.a, s.n, s.d); x != result || g != e {
		t.Errorf("%s%v is %d, %d, not %d, %d", f.name, s, x, g, result, e)
	}
}

// P1.1: the chapter's examples.
func TestExamples(t *testing.T) {
	for i, f := range functions() {
		check(t, f, sample{7, 1, 2}, []int{3, 4, 4}[i], api.OK)
		check(t, f, sample{-7, 1, 2}, []int{-4, -3, -4}[i], api.OK)
		check(t, f, sample{3000000000000000, 2, 1}, 0, api.ErrRange)
	}
	check(t, functions()[0], sample{3000000000000000, 1000000000, 1000050000}, 2999850007499625, api.OK)
}

// P1.1: A1 to A3 as they are worded, for quotients that are times.
func TestWorked(t *testing.T) {
	for _, x := range []struct {
		s                 sample
		floor, ceil, near int
	}{
		{sample{0, 5, 3}, 0, 0, 0},
		{sample{5, 0, 3}, 0, 0, 0},
		{sample{-5, 0, 3}, 0, 0, 0},
		{sample{6, 5, 3}, 10, 10, 10},
		{sample{-6, 5, 3}, -10, -10, -10},
		// nearer to the one or to the other
		{sample{4, 1, 3}, 1, 2, 1},
		{sample{5, 1, 3}, 1, 2, 2},
		{sample{-4, 1, 3}, -2, -1, -1},
		{sample{-5, 1, 3}, -2, -1, -2},
		{sample{1, 1, api.MaxFactor}, 0, 1, 0},
		{sample{-1, 1, api.MaxFactor}, -1, 0, 0},
		// ties go away from 0
		{sample{1, 1, 2}, 0, 1, 1},
		{sample{-1, 1, 2}, -1, 0, -1},
		{sample{3, 3, 6}, 1, 2, 2},
		{sample{-3, 3, 6}, -2, -1, -2},
		{sample{1, 1000000000, api.MaxFactor}, 0, 1, 1},
		{sample{-1, 1000000000, api.MaxFactor}, -1, 0, -1},
		{sample{1, 999999999, api.MaxFactor}, 0, 1, 0},
		{sample{-1, 1000000001, api.MaxFactor}, -1, 0, -1},
		// products of more than 64 bits
		{sample{most, api.MaxFactor, api.MaxFactor}, most, most, most},
		{sample{-most, 1999999999, 1999999999}, -most, -most, -most},
		{sample{most - 1, 1999999999, api.MaxFactor}, 2999999998499999, 2999999998500000, 2999999998499999},
		{sample{1 - most, 1999999999, api.MaxFactor}, -2999999998500000, -2999999998499999, -2999999998499999},
		{sample{1500000000000000, api.MaxFactor, 1000000000}, most, most, most},
	} {
		for i, f := range functions() {
			check(t, f, x.s, []int{x.floor, x.ceil, x.near}[i], api.OK)
		}
	}
}

// P1.1: A1 to A3 for all samples, against integers of any length.
func TestExact(t *testing.T) {
	for s := range samples {
		for _, f := range functions() {
			result, e := rounded(f.name, s)
			check(t, f, s, result, e)
		}
	}
}

// P1.1: a result that is no time, which may be so for one rounding only.
func TestNoTime(t *testing.T) {
	const ok, bad = api.OK, api.ErrRange
	for _, x := range []struct {
		s       sample
		results [3]int
		errors  [3]api.Errno
	}{
		{sample{most, 2, 1}, [3]int{}, [3]api.Errno{bad, bad, bad}},
		{sample{-most, 2, 1}, [3]int{}, [3]api.Errno{bad, bad, bad}},
		{sample{1500000000000001, 2, 1}, [3]int{}, [3]api.Errno{bad, bad, bad}},
		// quotients of more than 64 bits
		{sample{most, api.MaxFactor, 1}, [3]int{}, [3]api.Errno{bad, bad, bad}},
		{sample{-most, api.MaxFactor, 1}, [3]int{}, [3]api.Errno{bad, bad, bad}},
		// quotients that 64 bits would wrap: 2^64 and 448384, 2^64, and 2^64 less 2^13
		{sample{9223372036855, 2000000, 1}, [3]int{}, [3]api.Errno{bad, bad, bad}},
		{sample{1<<51 - 1, 1 << 13, 1}, [3]int{}, [3]api.Errno{bad, bad, bad}},
		{sample{1 - 1<<51, 1 << 13, 1}, [3]int{}, [3]api.Errno{bad, bad, bad}},
		{sample{1 << 51, 1 << 13, 1}, [3]int{}, [3]api.Errno{bad, bad, bad}},
		{sample{-1 << 51, 1 << 13, 1}, [3]int{}, [3]api.Errno{bad, bad, bad}},
		// MaxTime and 4/3, 1/3, and 2/3 (no quotient is MaxTime and a half, as twice that is a prime number)
		{sample{2250000000000001, 4, 3}, [3]int{}, [3]api.Errno{bad, bad, bad}},
		{sample{391304347826087, 23, 3}, [3]int{most, 0, most}, [3]api.Errno{ok, bad, ok}},
		{sample{-391304347826087, 23, 3}, [3]int{0, -most, -most}, [3]api.Errno{bad, ok, ok}},
		{sample{1285714285714286, 7, 3}, [3]int{most, 0, 0}, [3]api.Errno{ok, bad, bad}},
		{sample{-1285714285714286, 7, 3}, [3]int{0, -most, 0}, [3]api.Errno{bad, ok, bad}},
		// MaxTime, and a half less
		{sample{2000000000000000, 3, 2}, [3]int{most, most, most}, [3]api.Errno{ok, ok, ok}},
		{sample{857142857142857, 7, 2}, [3]int{most - 1, most, most}, [3]api.Errno{ok, ok, ok}},
		{sample{-857142857142857, 7, 2}, [3]int{-most, 1 - most, -most}, [3]api.Errno{ok, ok, ok}},
		{sample{most - 1, 3000001, 3000000}, [3]int{}, [3]api.Errno{bad, bad, bad}},
	} {
		for i, f := range functions() {
			check(t, f, x.s, x.results[i], x.errors[i])
		}
	}
}

// P1.1 and P1: invalid arguments are ErrArg, also where the result would be no time; nothing panics.
func TestInvalid(t *testing.T) {
	for s := range edges {
		if s.valid() {
			continue
		}
		for _, f := range functions() {
			check(t, f, s, 0, api.ErrArg)
		}
	}
}

// P1.2: Floor and Ceil are equal or neighbours, and Near is one of them, at most a half away.
func TestRounding(t *testing.T) {
	for s := range samples {
		low, e := scale.Floor(s.a, s.n, s.d)
		high, f := scale.Ceil(s.a, s.n, s.d)
		near, g := scale.Near(s.a, s.n, s.d)
		if e != api.OK || f != api.OK || g != api.OK {
			continue
		}
		product := new(big.Int).Mul(big.NewInt(int64(s.a)), big.NewInt(int64(s.n)))
		d := big.NewInt(int64(s.d))
		gap := 1
		if new(big.Int).Rem(product, d).Sign() == 0 {
			gap = 0
		}
		if high-low != gap || near != low && near != high {
			t.Errorf("%v: %d, %d, %d", s, low, high, near)
		}
		off := new(big.Int).Mul(big.NewInt(int64(near)), d)
		off.Sub(off, product).Abs(off).Mul(off, big.NewInt(2))
		if off.Cmp(d) > 0 {
			t.Errorf("%v: %d is farther than a half away", s, near)
		}
	}
}

// P1.3: Ceil of -a is the negative of Floor of a, and Near of -a that of Near of a.
func TestSigns(t *testing.T) {
	for s := range samples {
		low, e := scale.Floor(s.a, s.n, s.d)
		check(t, function{"Ceil", scale.Ceil}, sample{-s.a, s.n, s.d}, -low, e)
		near, e := scale.Near(s.a, s.n, s.d)
		check(t, function{"Near", scale.Near}, sample{-s.a, s.n, s.d}, -near, e)
	}
}

// P1.4: a greater time is not scaled to a smaller one.
func TestOrder(t *testing.T) {
	r := rand.New(rand.NewSource(4))
	for s := range samples {
		for _, b := range []int{s.a + 1, s.a + s.d, anyTime(r)} {
			for _, f := range functions() {
				x, e := f.call(s.a, s.n, s.d)
				y, g := f.call(b, s.n, s.d)
				if e == api.OK && g == api.OK && (s.a < b && x > y || s.a > b && x < y) {
					t.Errorf("%s%v is %d, but %d for %d", f.name, s, x, y, b)
				}
			}
		}
	}
}

// P1.5: there and back, Floor of Floor is at most a, and Ceil of Ceil at least.
func TestBack(t *testing.T) {
	tried := 0
	for s := range samples {
		if s.a < 0 || s.n == 0 {
			continue
		}
		if there, e := scale.Floor(s.a, s.n, s.d); e == api.OK {
			if back, e := scale.Floor(there, s.d, s.n); e != api.OK || back > s.a {
				t.Errorf("Floor%v is %d, and back %d, %d", s, there, back, e)
			}
			tried++
		}
		if there, e := scale.Ceil(s.a, s.n, s.d); e == api.OK {
			if back, e := scale.Ceil(there, s.d, s.n); e == api.OK && back < s.a {
				t.Errorf("Ceil%v is %d, and back %d", s, there, back)
			}
		}
	}
	if tried < 1000 {
		t.Error("only", tried, "samples")
	}
}

// P1.6: scaled by n and n a time stays as it is, and quotients of multiples of d are exact.
func TestUnits(t *testing.T) {
	for s := range samples {
		for _, f := range functions() {
			check(t, f, sample{s.a, s.d, s.d}, s.a, api.OK)
			if part := s.a / s.d; s.n == 0 || max(part, -part) <= most/s.n {
				check(t, f, sample{part * s.d, s.n, s.d}, part*s.n, api.OK)
			}
		}
	}
}

// P1.7: Floor of the sum of two times is at least the sum of both Floors, and at most 1 greater.
func TestFloorOfSum(t *testing.T) {
	r := rand.New(rand.NewSource(7))
	gaps := [2]int{}
	for s := range samples {
		b := anyTime(r)
		x, e := scale.Floor(s.a, s.n, s.d)
		y, f := scale.Floor(b, s.n, s.d)
		sum, g := scale.Sum(s.a, b)
		if e != api.OK || f != api.OK || g != api.OK {
			continue
		}
		z, e := scale.Floor(sum, s.n, s.d)
		if e != api.OK {
			continue
		}
		if gap := z - x - y; gap != 0 && gap != 1 {
			t.Errorf("%v and %d: %d, %d, and %d of the sum", s, b, x, y, z)
		} else {
			gaps[gap]++
		}
	}
	if gaps[0] < 1000 || gaps[1] < 1000 {
		t.Error("only", gaps, "samples")
	}
}

// repeated returns n times x.
func repeated(n, x int) []int {
	return slices.Repeat([]int{x}, n)
}

// P1.1: A4, with its errors in their order.
func TestSum(t *testing.T) {
	for _, x := range []struct {
		name   string
		l      []int
		result int
		e      api.Errno
	}{
		{"none", nil, 0, api.OK},
		{"empty", []int{}, 0, api.OK},
		{"one", []int{-7}, -7, api.OK},
		{"mixed", []int{3, -5, 1}, -1, api.OK},
		{"to 0", []int{most, -most}, 0, api.OK},
		{"greatest", []int{most - 1, 1}, most, api.OK},
		{"least", []int{1 - most, -1}, -most, api.OK},
		{"beyond on the way", []int{most, most, -most}, most, api.OK},
		{"below on the way", []int{-most, -most, most}, -most, api.OK},
		{"too great", []int{most, 1}, 0, api.ErrRange},
		{"too small", []int{-most, -1}, 0, api.ErrRange},
		{"no time", []int{most + 1}, 0, api.ErrArg},
		{"no time that others make up for", []int{most + 1, -1}, 0, api.ErrArg},
		{"no time below", []int{1, -most - 1}, 0, api.ErrArg},
		{"least int", []int{math.MinInt}, 0, api.ErrArg},
		{"greatest int", []int{math.MaxInt}, 0, api.ErrArg},
		{"no time after a sum that is none", []int{most, 1, math.MinInt}, 0, api.ErrArg},
		{"beyond 63 bits", repeated(4000, most), 0, api.ErrRange},
		{"below 63 bits", repeated(4000, -most), 0, api.ErrRange},
		{"beyond 63 bits and back", append(append(repeated(4000, most), repeated(4000, -most)...), 5), 5, api.OK},
		{"below 63 bits and back", append(append(repeated(4000, -most), repeated(4000, most)...), 5), 5, api.OK},
		{"2^64", append(repeated(6148, most), 2744073709551616), 0, api.ErrRange},
		{"-2^64", append(repeated(6148, -most), -2744073709551616), 0, api.ErrRange},
		{"no time after 2^64", append(repeated(6148, most), 2744073709551616, most+1), 0, api.ErrArg},
	} {
		if sum, e := scale.Sum(x.l...); sum != x.result || e != x.e {
			t.Errorf("%s: %d, %d, not %d, %d", x.name, sum, e, x.result, x.e)
		}
	}
}

// P1.7: the order of times plays no part in their sum; nor is the list changed.
func TestSumOrder(t *testing.T) {
	r := rand.New(rand.NewSource(8))
	for range 2000 {
		l := make([]int, r.Intn(9))
		exact := 0
		for i := range l {
			l[i] = anyTime(r)
			exact += l[i]
		}
		e := api.OK
		if !isTime(exact) {
			exact, e = 0, api.ErrRange
		}
		for range 4 {
			before := slices.Clone(l)
			if sum, f := scale.Sum(l...); sum != exact || f != e {
				t.Errorf("%v: %d, %d, not %d, %d", l, sum, f, exact, e)
			}
			if !slices.Equal(l, before) {
				t.Errorf("%v became %v", before, l)
			}
			r.Shuffle(len(l), func(i, j int) { l[i], l[j] = l[j], l[i] })
		}
	}
}
