// Package scale is layer 1: see shared/doc/01-scale.md.
package scale

import (
	"math/bits"

	"regulator/api"
)

// Floor returns the greatest integer that is not above a * n / d.
func Floor(a, n, d int) (int, api.Errno) {
	return scaled(a, n, d, func(whole, left int) int {
		return whole
	})
}

// Ceil returns the least integer that is not below a * n / d.
func Ceil(a, n, d int) (int, api.Errno) {
	return scaled(a, n, d, func(whole, left int) int {
		if left > 0 {
			return whole + 1
		}
		return whole
	})
}

// Near returns the integer that is nearest to a * n / d; of two equally near ones the one with the greater absolute value.
func Near(a, n, d int) (int, api.Errno) {
	return scaled(a, n, d, func(whole, left int) int {
		// In a tie whole is the lesser one, which is already the one farther from 0 if the quotient is negative.
		if 2*left > d || 2*left == d && a > 0 {
			return whole + 1
		}
		return whole
	})
}

// Sum returns the sum of times.
func Sum(l ...int) (int, api.Errno) {
	// A list of a few thousand times can exceed 64 bits, and may come back later, so the sum has 128 bits, in two's complement.
	var high, low uint64
	for _, x := range l {
		if !isTime(x) {
			return 0, api.ErrArg
		}
		var carry uint64
		low, carry = bits.Add64(low, uint64(x), 0)
		high, _ = bits.Add64(high, uint64(x>>63), carry)
	}
	sum := int(low)
	if int(high) != sum>>63 || !isTime(sum) {
		return 0, api.ErrRange
	}
	return sum, api.OK
}

// scaled returns a * n / d as it is rounded by round, which gets the quotient rounded down, and what is left: from 0 to d - 1.
func scaled(a, n, d int, round func(whole, left int) int) (int, api.Errno) {
	if !isTime(a) || !isFactor(n) || !isFactor(d) || d == 0 {
		return 0, api.ErrArg
	}
	whole, left, ok := divide(a, n, d)
	if !ok {
		return 0, api.ErrRange
	}
	result := round(whole, left)
	if !isTime(result) {
		return 0, api.ErrRange
	}
	return result, api.OK
}

// divide returns a * n / d rounded down, and what is left; or false if no rounding of the quotient is a time.
func divide(a, n, d int) (whole, left int, ok bool) {
	high, low := bits.Mul64(uint64(max(a, -a)), uint64(n))
	if high >= uint64(d) {
		// The quotient has more than 64 bits, which bits.Div64 refuses with a panic.
		return 0, 0, false
	}
	size, rest := bits.Div64(high, low, uint64(d))
	if size > api.MaxTime {
		return 0, 0, false
	}
	whole, left = int(size), int(rest)
	if a >= 0 {
		return whole, left, true
	}
	if left == 0 {
		return -whole, 0, true
	}
	return -whole - 1, d - left, true
}

func isTime(x int) bool {
	return -api.MaxTime <= x && x <= api.MaxTime
}

func isFactor(x int) bool {
	return 0 <= x && x <= api.MaxFactor
}
