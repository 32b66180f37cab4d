package window

import (
	"math"
	"testing"

	"tally/api"
)

func TestBounded(t *testing.T) {
	for n, want := range map[int]int{
		0: 0, 7: 7, -7: -7, api.Most: api.Most, -api.Most: -api.Most, api.Most - 1: api.Most - 1, 1 - api.Most: 1 - api.Most,
		api.Most + 1: api.Most, -api.Most - 1: -api.Most, math.MaxInt: api.Most, math.MinInt: -api.Most,
	} {
		if got := bounded(n); got != want {
			t.Errorf("P5: bounded(%d) = %d, want %d", n, got, want)
		}
	}
}

// TestCountBounded: no test can take so many samples that the count comes to its bound by itself.
func TestCountBounded(t *testing.T) {
	x := newTimer(2)
	x.add(7, api.Most-1)
	x.add(7, 1000)
	if want := "1000000000000000 1000000000000000 7 7 7 7 7 0"; x.text() != want {
		t.Errorf("P5: %q, want %q", x.text(), want)
	}
}

// TestTextSoFar: telling the text changes nothing, and more may come behind it.
func TestTextSoFar(t *testing.T) {
	w := New(api.Config{Width: 1, Series: 2, Sets: 1, Buckets: 2, Shards: 2, Segment: 64})
	for _, c := range [][2]string{
		{"", "window 1 rejects 0 drops 0\n"},
		{"t:0.001|ms", "window 1 rejects 0 drops 0\nt|ms=1 1 1 1 1 1 1 0\n"},
		{"t:0.002|ms\nno", "window 1 rejects 1 drops 0\nt|ms=2 3 1 2 1 1 1 0\n"},
		{"s:a|s\ns:b|s", "window 1 rejects 1 drops 1\ns|s=1\nt|ms=2 3 1 2 1 1 1 0\n"},
		{"t:0.003|ms", "window 1 rejects 1 drops 1\ns|s=1\nt|ms=3 6 1 3 2 2 2 1\n"},
	} {
		w.Take(c[0])
		for range 2 {
			if got := w.Text(1); got != c[1] {
				t.Errorf("P5: behind %q: %q, want %q", c[0], got, c[1])
			}
		}
	}
}
