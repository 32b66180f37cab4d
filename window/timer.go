package window

import (
	"strconv"
	"strings"

	"tally/sketch"
)

// timer is what the samples of a timer come to.
type timer struct {
	count    int
	sum      int
	least    int
	greatest int
	sketch   *sketch.Sketch
}

// newTimer makes a timer without samples, of so many buckets.
func newTimer(buckets int) *timer {
	return &timer{sketch: sketch.New(buckets)}
}

// add takes a value with its weight.
func (t *timer) add(value, weight int) {
	if t.count == 0 {
		t.least, t.greatest = value, value
	}
	t.count = bounded(t.count + weight)
	t.sum = bounded(t.sum + value*weight)
	t.least = min(t.least, value)
	t.greatest = max(t.greatest, value)
	t.sketch.Add(value, weight)
}

// quantile is the quantile q, of a hundred.
func (t *timer) quantile(q int) int {
	return t.sketch.At(q * (t.count - 1) / 100)
}

// text tells the timer's numbers.
func (t *timer) text() string {
	folded := 0
	if t.sketch.Folded() {
		folded = 1
	}
	return joined(t.count, t.sum, t.least, t.greatest, t.quantile(50), t.quantile(90), t.quantile(99), folded)
}

// joined are the numbers with blanks between.
func joined(numbers ...int) string {
	texts := make([]string, len(numbers))
	for i, n := range numbers {
		texts[i] = strconv.Itoa(n)
	}
	return strings.Join(texts, " ")
}
