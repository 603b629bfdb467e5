// Package sat is layer 1, counting within bounds: see shared/doc/01-sat.md.
package sat

import "hopper/api"

// mostPairs is how many pairs Totals sums at most.
const mostPairs = 1000

// Add tells a and b together, and true, where both are 0 or above and that is at most most.
func Add(a int, b int, most int) (int, bool) {
	if !within(a, most) || !within(b, most-a) {
		return 0, false
	}
	return a + b, true
}

// Mul tells a times b, and true, where both are 0 or above and that is at most most.
func Mul(a int, b int, most int) (int, bool) {
	if a < 0 || b < 0 || most < 0 {
		return 0, false
	}
	// Dividing instead of multiplying: the product itself might turn round.
	if a > 0 && b > most/a {
		return 0, false
	}
	return a * b, true
}

// Raise tells the least number above tip that is at least tip and percent hundredths of it, and true, where that is a tip.
func Raise(tip int, percent int) (int, bool) {
	if !within(tip, api.MaxTip) || !within(percent, api.MaxBump) {
		return 0, false
	}
	// At most 2^40 times 200: far from turning round.
	hundredths := tip * (100 + percent)
	raised := max(tip+1, (hundredths+99)/100)
	if raised > api.MaxTip {
		return 0, false
	}
	return raised, true
}

// Slots tells how many slots so many bytes take, one at least; 0 of a size that may not be.
func Slots(size int) int {
	if !within(size, api.MaxBytes) {
		return 0
	}
	return max(1, (size+api.SlotSize-1)/api.SlotSize)
}

// Totals tells the sum of the first ones and that of the second ones of all pairs, and true, where these may be summed.
func Totals(l [][2]int) ([2]int, bool) {
	if len(l) > mostPairs {
		return [2]int{}, false
	}
	// The parts of a sum stay at or below 1000 times 2^40, which is below 2^53: each is a whole number exactly.
	var sum complex128
	for _, pair := range l {
		if !within(pair[0], api.MaxTip) || !within(pair[1], api.MaxTip) {
			return [2]int{}, false
		}
		sum += complex(float64(pair[0]), float64(pair[1]))
	}
	return [2]int{int(real(sum)), int(imag(sum))}, true
}

// within tells whether n is 0 to most.
func within(n int, most int) bool {
	return 0 <= n && n <= most
}
