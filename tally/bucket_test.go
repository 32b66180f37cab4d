package tally_test

import (
	"math"
	"math/big"
	"slices"
	"testing"

	"tally/api"
	"tally/tally"
)

func checkBucket(t *testing.T, v, number, stands int) {
	t.Helper()
	if n, s := tally.Bucket(v); n != number || s != stands {
		t.Errorf("P4: Bucket(%d) = %d, %d, want %d, %d", v, n, s, number, stands)
	}
}

func TestBucketKnown(t *testing.T) {
	for v := range 49 {
		checkBucket(t, v, v, v)
	}
	for _, c := range [][3]int{
		{49, 49, 49}, {50, 49, 49}, {51, 50, 51}, {52, 50, 51}, {53, 51, 53}, {54, 51, 53}, {55, 52, 55},
		{100, 70, 100}, {1000, 130, 999}, {1000000, 303, 999302},
		{992682620, 475, 972828968}, {992682621, 476, 1012536273}, {999999999, 476, 1012536273}, {1000000000, 476, 1012536273},
	} {
		checkBucket(t, c[0], c[1], c[2])
	}
}

func TestBucketNone(t *testing.T) {
	for _, v := range []int{-1, -7, -api.MaxValue, math.MinInt32, math.MinInt, api.MaxValue + 1, api.MaxValue + 2, 1033200279, math.MaxInt32, math.MaxUint32, 1 << 32, math.MaxInt - 1, math.MaxInt} {
		checkBucket(t, v, -1, 0)
	}
}

// boundaries are b(0), b(1) and so on, up to the first one above the greatest value.
func boundaries() []int {
	l := []int{0, 1}
	for l[len(l)-1] <= api.MaxValue {
		b := big.NewInt(int64(l[len(l)-1]))
		next := new(big.Int).Mul(b, big.NewInt(51))
		next.Div(next, big.NewInt(49))
		if next.Cmp(b) <= 0 {
			next.Add(b, big.NewInt(1))
		}
		l = append(l, int(next.Int64()))
	}
	return l
}

// stands is what the bucket between two boundaries stands for.
func stands(low, high int) int {
	a, b := big.NewInt(int64(low)), big.NewInt(int64(high))
	product := new(big.Int).Mul(a, b)
	product.Mul(product, big.NewInt(2))
	return int(product.Div(product, new(big.Int).Add(a, b)).Int64())
}

func TestBucketBounds(t *testing.T) {
	l := boundaries()
	for i := range len(l) - 1 {
		low, high := l[i], l[i+1]
		for _, v := range []int{low, low + 1, (low + high) / 2, high - 2, high - 1} {
			if v >= low && v < high && v <= api.MaxValue {
				checkBucket(t, v, i, stands(low, high))
			}
		}
	}
}

func TestBucketOfEachSmallValue(t *testing.T) {
	l := boundaries()
	for v := range 100000 {
		at, found := slices.BinarySearch(l, v)
		if !found {
			at--
		}
		checkBucket(t, v, at, stands(l[at], l[at+1]))
	}
}

// TestBucketNear: a bucket stands for something within a fiftieth of each of its values.
func TestBucketNear(t *testing.T) {
	for v := 1; v <= api.MaxValue; v += 1 + v/1000 {
		_, s := tally.Bucket(v)
		if off := max(s-v, v-s); 50*off > v+50 {
			t.Errorf("P4: Bucket(%d) stands for %d, which is too far off", v, s)
		}
	}
}
