// Package sketch lays values into buckets whose bounds grow with them, so that a value is known up to a share of itself.
package sketch

import "tally/api"

// Bucket tells the number of a value's bucket, and what that stands for; -1 and 0: the value has none.
func Bucket(v int) (int, int) {
	if v < 0 || v > api.MaxValue {
		return -1, 0
	}
	number, low, high := 0, 0, 1
	for high <= v {
		number, low, high = number+1, high, nextBound(high)
	}
	return number, standsFor(low, high)
}

// nextBound is the boundary behind one that is not 0.
func nextBound(b int) int {
	// Small boundaries would not grow by their share alone.
	return max(51*b/49, b+1)
}

// standsFor is the value that a bucket with these bounds is told as.
func standsFor(low, high int) int {
	return 2 * low * high / (low + high)
}
