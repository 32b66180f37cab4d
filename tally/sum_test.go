package tally_test

import (
	"fmt"
	"math"
	"slices"
	"strconv"
	"strings"
	"testing"

	"tally/api"
	"tally/tally"
)

// widest is a configuration that holds as much as there may be.
func widest() api.Config {
	return api.Config{Width: 10, Series: 32, Sets: 16, Buckets: 64, Shards: 16, Segment: 256}
}

// checkSum: the window 3 of these datagrams has this text, of which the lines are handed in.
func checkSum(t *testing.T, c api.Config, datagrams []string, lines ...string) {
	t.Helper()
	want := "window 3 " + strings.Join(lines, "\n") + "\n"
	if got, e := tally.Sum(c, 3, datagrams); got != want || e != api.OK {
		t.Errorf("P5: Sum(%+v, 3, %.200q) = %.300q, %d, want %.300q", c, datagrams, got, e, want)
	}
}

// checkOne: one datagram of these lines makes one series with this text, and nothing is rejected or dropped.
func checkOne(t *testing.T, c api.Config, series string, lines ...string) {
	t.Helper()
	checkSum(t, c, []string{strings.Join(lines, "\n")}, "rejects 0 drops 0", series)
}

func TestSumOfTheDocument(t *testing.T) {
	c := ordinary()
	c.Series, c.Sets, c.Buckets = 2, 1, 2
	checkSum(t, c, []string{"c:1|c|@0.5", "g:+2|g\ng:-5|g\nbad\nn:1|c"}, "rejects 1 drops 1", "c|c=2000", "g|g=-3000")
}

func TestSumOfNothing(t *testing.T) {
	for _, datagrams := range [][]string{nil, {}, {""}, {"", ""}, {"\n"}, {"\n\n\n", "", "\n"}} {
		checkSum(t, ordinary(), datagrams, "rejects 0 drops 0")
	}
}

func TestSumNumbers(t *testing.T) {
	for _, n := range []int{math.MinInt, -10, -1, 0, 1, 7, api.MaxTime, math.MaxInt} {
		want := "window " + strconv.Itoa(n) + " rejects 0 drops 0\nx|c=1000\n"
		if got, e := tally.Sum(ordinary(), n, []string{"x:1|c"}); got != want || e != api.OK {
			t.Errorf("P5: window %d: %q, %d, want %q", n, got, e, want)
		}
	}
}

func TestSumConfig(t *testing.T) {
	for _, b := range bounds() {
		for _, v := range []int{math.MinInt, -1, b.least - 1, b.most + 1, math.MaxInt} {
			c := ordinary()
			*b.field(&c) = v
			if got, e := tally.Sum(c, 3, []string{"x:1|c"}); got != "" || e != api.ErrConfig {
				t.Errorf("P5: Sum with %s %d = %q, %d, want ErrConfig", b.name, v, got, e)
			}
		}
	}
}

func TestSumLines(t *testing.T) {
	checkSum(t, ordinary(), []string{"x:1|c\n"}, "rejects 0 drops 0", "x|c=1000")
	checkSum(t, ordinary(), []string{"\nx:1|c\n\nx:2|c"}, "rejects 0 drops 0", "x|c=3000")
	checkSum(t, ordinary(), []string{"x:1|c\r\nx:2|c", " ", "x:3|c\x00"}, "rejects 3 drops 0", "x|c=2000")
	checkSum(t, ordinary(), []string{"x:1", "|c"}, "rejects 2 drops 0")
	checkSum(t, ordinary(), []string{"x:1|c", "x:1|c", "x:1|c"}, "rejects 0 drops 0", "x|c=3000")
	checkSum(t, ordinary(), []string{"bad\nx:1|c\nworse\n:1|c", "bad"}, "rejects 4 drops 0", "x|c=1000")
	long := strings.Repeat("x:1|c\n", 100*api.MaxDatagram)
	checkSum(t, ordinary(), []string{long}, "rejects 0 drops 0", "x|c="+strconv.Itoa(100000*api.MaxDatagram))
}

func TestSumKeys(t *testing.T) {
	checkOne(t, ordinary(), "x|c|#a,b=7000", "x:1|c|#a,b", "x:2|c|#b,a", "x:4|c|@1|#b,a,b,a")
	checkOne(t, ordinary(), "x|ms=2 3000 1000 2000 999 999 999 0", "x:1|ms", "x:2|h")
	checkSum(t, widest(), []string{"x:1|c|#a\nx:1|c|#ab\nx:1|c\nx:1|g\nx:1|s\nx:0|h\nx.:1|c\nx0:1|c\nx:1|c|#a,b\nw:1|c\nx_:1|c\nxx:1|c\nx:2|c|#_"},
		"rejects 0 drops 0",
		"w|c=1000", "x.|c=1000", "x0|c=1000", "x_|c=1000", "xx|c=1000",
		"x|c=1000", "x|c|#_=2000", "x|c|#a=1000", "x|c|#a,b=1000", "x|c|#ab=1000", "x|g=1000", "x|ms=1 0 0 0 0 0 0 0", "x|s=1")
}

func TestSumCounters(t *testing.T) {
	checkOne(t, ordinary(), "x|c=0", "x:0|c")
	checkOne(t, ordinary(), "x|c=0", "x:-0|c")
	checkOne(t, ordinary(), "x|c=-1", "x:1.5|c", "x:-1.501|c")
	checkOne(t, ordinary(), "x|c=2000", "x:1|c|@0.5")
	checkOne(t, ordinary(), "x|c=1", "x:0.001|c|@0.501")
	checkOne(t, ordinary(), "x|c=1", "x:0.001|c|@0.999")
	checkOne(t, ordinary(), "x|c=-1", "x:-0.001|c|@0.999")
	checkOne(t, ordinary(), "x|c=3003", "x:1|c|@0.333")
	checkOne(t, ordinary(), "x|c=-3003", "x:-1|c|@0.333")
	// Each is cut towards 0 on its own: together they would be 4.
	checkOne(t, ordinary(), "x|c=3", "x:0.001|c|@0.667", "x:0.001|c|@0.667", "x:0.001|c|@0.667")
	checkOne(t, ordinary(), "x|c=1", "x:0.002|c|@0.667", "x:-0.001|c|@0.667")
	checkOne(t, ordinary(), "x|c=999999999000", "x:999999.999|c|@0.001")
}

func TestSumGauges(t *testing.T) {
	checkOne(t, ordinary(), "x|g=7000", "x:7|g")
	checkOne(t, ordinary(), "x|g=7000", "x:+7|g")
	checkOne(t, ordinary(), "x|g=-7000", "x:-7|g")
	checkOne(t, ordinary(), "x|g=0", "x:7|g", "x:0|g")
	checkOne(t, ordinary(), "x|g=7000", "x:7|g", "x:+0|g", "x:-0|g")
	checkOne(t, ordinary(), "x|g=5500", "x:7|g", "x:-1.5|g")
	checkOne(t, ordinary(), "x|g=-2000", "x:7|g", "x:-9|g")
	checkOne(t, ordinary(), "x|g=4000", "x:7|g", "x:+9|g", "x:4|g")
	checkOne(t, ordinary(), "x|g=2000", "x:4|g", "x:-9|g", "x:1|g", "x:+1|g")
}

func TestSumSets(t *testing.T) {
	checkOne(t, ordinary(), "x|s=1", "x:a|s", "x:a|s")
	checkOne(t, ordinary(), "x|s=4", "x:0|s", "x:00|s", "x:0_|s", "x:_|s", "x:00|s")
	checkSum(t, ordinary(), []string{"x:a|s\ny:a|s\nx:a|s|#a"}, "rejects 0 drops 0", "x|s=1", "x|s|#a=1", "y|s=1")
	for sets := 1; sets <= 16; sets++ {
		c := widest()
		c.Sets = sets
		var lines []string
		for round := range 2 {
			for i := range 20 {
				lines = append(lines, fmt.Sprintf("x:w%d|s", i))
			}
			want := []string{fmt.Sprintf("rejects 0 drops %d", (round+1)*(20-sets)), fmt.Sprintf("x|s=%d", sets)}
			checkSum(t, c, []string{strings.Join(lines, "\n")}, want...)
		}
	}
}

func TestSumSeries(t *testing.T) {
	for most := 1; most <= 32; most++ {
		c := widest()
		c.Series = most
		datagrams := []string{"n00:1|c"}
		want := []string{fmt.Sprintf("rejects 0 drops %d", 40-most), "n00|c=40000"}
		for i := 1; i < 40; i++ {
			datagrams = append(datagrams, fmt.Sprintf("n%02d:1|c\nn00:1|c", i))
			if i < most {
				want = append(want, fmt.Sprintf("n%02d|c=1000", i))
			}
		}
		checkSum(t, c, datagrams, want...)
	}
	// A series is its whole key, and lines that are none begin no series.
	c := ordinary()
	c.Series = 2
	checkSum(t, c, []string{"y:1\nx:1|c\nx:1|g\nx:1|s\nx:1|h\nx:1|c|#a\nx:2|c\nz"}, "rejects 2 drops 3", "x|c=3000", "x|g=1000")
}

func TestSumTimers(t *testing.T) {
	checkOne(t, ordinary(), "x|ms=1 0 0 0 0 0 0 0", "x:0|ms")
	checkOne(t, ordinary(), "x|ms=1 52 52 52 51 51 51 0", "x:0.052|h")
	checkOne(t, ordinary(), "x|ms=1 999999999 999999999 999999999 1012536273 1012536273 1012536273 0", "x:999999.999|ms")
	// The least and the greatest come first, last and in between.
	checkOne(t, ordinary(), "x|ms=3 9 1 5 3 3 3 0", "x:0.001|ms", "x:0.005|ms", "x:0.003|ms")
	checkOne(t, ordinary(), "x|ms=3 9 1 5 3 3 3 0", "x:0.005|ms", "x:0.003|ms", "x:0.001|ms")
	checkOne(t, ordinary(), "x|ms=3 9 1 5 3 3 3 0", "x:0.003|ms", "x:0.001|ms", "x:0.005|ms")
	// A weight is a whole number: 1 up to a rate of 0.501, then 2, and so on.
	checkOne(t, ordinary(), "x|ms=1 7 7 7 7 7 7 0", "x:0.007|ms|@0.999")
	checkOne(t, ordinary(), "x|ms=1 7 7 7 7 7 7 0", "x:0.007|ms|@0.501")
	checkOne(t, ordinary(), "x|ms=2 14 7 7 7 7 7 0", "x:0.007|ms|@0.5")
	checkOne(t, ordinary(), "x|ms=3 21 7 7 7 7 7 0", "x:0.007|ms|@0.333")
	checkOne(t, ordinary(), "x|ms=1000 7000 7 7 7 7 7 0", "x:0.007|ms|@0.001")
	checkOne(t, ordinary(), "x|ms=1001 1009 1 9 1 1 1 0", "x:0.001|ms|@0.001", "x:0.009|ms")
}

// TestSumQuantiles: n values, all in buckets of their own, of which the one at place k is told.
func TestSumQuantiles(t *testing.T) {
	for n := 1; n <= 49; n++ {
		var lines []string
		for v := n - 1; v >= 0; v-- {
			lines = append(lines, fmt.Sprintf("x:0.%03d|ms", v))
		}
		at := func(q int) int { return int(math.Floor(float64(q*(n-1)) / 100)) }
		checkOne(t, widest(), fmt.Sprintf("x|ms=%d %d 0 %d %d %d %d 0", n, n*(n-1)/2, n-1, at(50), at(90), at(99)), lines...)
	}
	// Of 100 the places are 49, 89 and 98; of 101 they are 50, 90 and 99.
	for _, c := range []struct {
		low, high int
		want      string
	}{
		{49, 51, "2 2 2"}, {50, 50, "1 2 2"}, {89, 11, "1 2 2"}, {90, 10, "1 1 2"}, {98, 2, "1 1 2"}, {99, 1, "1 1 1"},
		{50, 51, "2 2 2"}, {51, 50, "1 2 2"}, {90, 11, "1 2 2"}, {91, 10, "1 1 2"}, {99, 2, "1 1 2"}, {100, 1, "1 1 1"},
	} {
		lines := append(slices.Repeat([]string{"x:0.002|h"}, c.high), slices.Repeat([]string{"x:0.001|ms"}, c.low)...)
		checkOne(t, ordinary(), fmt.Sprintf("x|ms=%d %d 1 2 %s 0", c.low+c.high, c.low+2*c.high, c.want), lines...)
	}
}

func TestSumFolded(t *testing.T) {
	c := ordinary()
	c.Buckets = 2
	checkOne(t, c, "x|ms=3 50 10 30 10 10 10 0", "x:0.010|ms", "x:0.030|ms", "x:0.010|ms")
	checkOne(t, c, "x|ms=3 60 10 30 20 20 20 1", "x:0.010|ms", "x:0.020|ms", "x:0.030|ms")
	checkOne(t, c, "x|ms=3 60 10 30 20 20 20 1", "x:0.020|ms", "x:0.030|ms", "x:0.010|ms")
	// What was folded away may come again, and is folded again.
	checkOne(t, c, "x|ms=5 80 10 30 20 20 20 1", "x:0.010|ms", "x:0.020|ms", "x:0.030|ms", "x:0.010|ms", "x:0.010|ms")
	checkOne(t, c, "x|ms=4 100 10 40 30 30 30 1", "x:0.010|ms", "x:0.020|ms", "x:0.030|ms", "x:0.040|ms")
	// The greater of the two is told where it weighs enough.
	checkOne(t, c, "x|ms=1003 40060 10 40 40 40 40 1", "x:0.010|ms", "x:0.020|ms", "x:0.030|ms", "x:0.040|ms|@0.001")
	// Values of one bucket are not folded, though they are several.
	checkOne(t, c, "x|ms=4 208 51 53 51 51 51 0", "x:0.052|ms", "x:0.052|ms", "x:0.053|ms", "x:0.051|ms")
	for buckets := 2; buckets <= 64; buckets++ {
		c.Buckets = buckets
		for _, more := range []int{0, 1, 2} {
			checkFolded(t, c, buckets+more)
		}
	}
}

// checkFolded: a timer with the lowest values of so many buckets.
func checkFolded(t *testing.T, c api.Config, n int) {
	t.Helper()
	l := boundaries()
	var lines []string
	sum := 0
	for i := 1; i <= n; i++ {
		lines = append(lines, fmt.Sprintf("x:0.%03d|ms", l[i]))
		sum += l[i]
	}
	folded := min(1, n-c.Buckets)
	at := func(q int) int {
		i := max(1+q*(n-1)/100, 1+n-c.Buckets)
		return stands(l[i], l[i+1])
	}
	checkOne(t, c, fmt.Sprintf("x|ms=%d %d 1 %d %d %d %d %d", n, sum, l[n], at(50), at(90), at(99), folded), lines...)
}

// TestSumEachTimerAlone: that one timer is folded is not to be seen in another.
func TestSumEachTimerAlone(t *testing.T) {
	c := ordinary()
	c.Buckets = 2
	checkSum(t, c, []string{"x:0.001|ms\ny:0.002|ms\nx:0.003|ms\ny:0.004|ms\nx:0.005|ms"},
		"rejects 0 drops 0", "x|ms=3 9 1 5 3 3 3 1", "y|ms=2 6 2 4 2 2 2 0")
}

func TestSumMost(t *testing.T) {
	up, down := strings.Repeat("x:999999.999|c|@0.001\n", 1001), strings.Repeat("x:-999999.999|c|@0.001\n", 1001)
	checkOne(t, ordinary(), "x|c=999999999000000", up[:len(up)/1001*1000])
	checkOne(t, ordinary(), "x|c=1000000000000000", up)
	checkOne(t, ordinary(), "x|c=-1000000000000000", down)
	// Kept at each change: from the bound it goes back at once.
	checkOne(t, ordinary(), "x|c=999999999999999", up, up, "x:-0.001|c")
	checkOne(t, ordinary(), "x|c=-999999999999999", down, down, "x:0.001|c")
	checkOne(t, ordinary(), "x|c=1000000000000000", up, "x:-0.001|c", "x:0.002|c")

	up, down = strings.Repeat("x:+999999.999|g\n", 1000001), strings.Repeat("x:-999999.999|g\n", 1000001)
	checkOne(t, ordinary(), "x|g=1000000000000000", up)
	checkOne(t, ordinary(), "x|g=999999999999999", up, "x:+1|g", "x:-0.001|g")
	checkOne(t, ordinary(), "x|g=-999999999999999", down, "x:-1|g", "x:+0.001|g")
	checkOne(t, ordinary(), "x|g=5000", down, "x:5|g")

	timer := strings.Repeat("x:999999.999|h|@0.001\n", 1001)
	checkOne(t, ordinary(), "x|ms=1001000 1000000000000000 999999999 999999999 1012536273 1012536273 1012536273 0", timer)
	checkOne(t, ordinary(), "x|ms=1001001 1000000000000000 1 999999999 1012536273 1012536273 1012536273 0", timer, "x:0.001|ms")
}

// TestSumLeavesItsList: the list and its spare room stay as they are, and the answer is the same each time.
func TestSumLeavesItsList(t *testing.T) {
	list := []string{"x:1|c\nbad", "", "y:2|ms", "spare:1|c", "room"}
	before := slices.Clone(list)
	first, _ := tally.Sum(ordinary(), 3, list[:3])
	if !slices.Equal(list, before) {
		t.Errorf("P1: the list is %q, was %q", list, before)
	}
	for range 20 {
		if again, _ := tally.Sum(ordinary(), 3, list[:3]); again != first {
			t.Errorf("P1: %q, then %q", first, again)
		}
	}
}
