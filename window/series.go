package window

import (
	"strconv"

	"tally/api"
	"tally/sample"
)

// series is what the samples of one key come to.
type series struct {
	kind   sample.Kind
	number int // a counter's total, or a gauge's value
	words  *words
	timer  *timer
}

// newSeries makes a series without samples.
func newSeries(kind sample.Kind, limits api.Config) *series {
	x := &series{kind: kind}
	switch kind {
	case sample.Set:
		x.words = newWords(limits.Sets)
	case sample.Timer:
		x.timer = newTimer(limits.Buckets)
	}
	return x
}

// take takes a sample of the series; false: it is dropped.
func (x *series) take(s sample.Sample) bool {
	value := s.Value
	switch {
	case s.Kind == sample.Set:
		return x.words.add(s.Word)
	case s.Kind == sample.Timer:
		x.timer.add(value, sample.Whole/s.Rate)
	case s.Kind == sample.Counter:
		value = value * sample.Whole / s.Rate
		fallthrough
	case s.Signed:
		value += x.number
		fallthrough
	case s.Kind == sample.Gauge:
		x.number = bounded(value)
	}
	return true
}

// bounded is the number, or the bound behind which it lies.
func bounded(n int) int {
	return min(max(n, -api.Most), api.Most)
}

// text tells what stands behind the key.
func (x *series) text() string {
	switch x.kind {
	case sample.Set:
		return strconv.Itoa(x.words.len())
	case sample.Timer:
		return x.timer.text()
	}
	return strconv.Itoa(x.number)
}
