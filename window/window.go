// Package window sums up the datagrams of a window, and tells its text.
package window

import (
	"strconv"
	"strings"

	"tally/api"
	"tally/sample"
	"tally/shard"
)

// Window is what the datagrams of a window come to.
type Window struct {
	limits  api.Config
	series  *shard.Map[*series] // by keys
	rejects int                 // lines that were none
	drops   int                 // samples for which there was no place
}

// New makes a window without datagrams, which keeps to the limits of a configuration.
func New(c api.Config) *Window {
	return &Window{limits: c, series: shard.New[*series](c.Shards)}
}

// Take takes the lines of a datagram, in order.
func (w *Window) Take(datagram string) {
	for _, line := range strings.Split(datagram, "\n") {
		if line != "" {
			w.takeLine(line)
		}
	}
}

// takeLine takes a line's sample, if it is a line.
func (w *Window) takeLine(line string) {
	s, ok := sample.Read(line)
	if !ok {
		w.rejects++
		return
	}
	x, ok := w.seriesOf(s)
	if !ok || !x.take(s) {
		w.drops++
	}
}

// seriesOf is the series of a sample, which begins where it was not there yet; false: there is no place for it.
func (w *Window) seriesOf(s sample.Sample) (*series, bool) {
	key := s.Key()
	x, ok := w.series.Get(key)
	if ok {
		return x, true
	}
	if w.series.Len() >= w.limits.Series {
		return nil, false
	}
	x = newSeries(s.Kind, w.limits)
	w.series.Put(key, x)
	return x, true
}

// Text is the window's text so far, under this number.
func (w *Window) Text(number int) string {
	var text strings.Builder
	text.WriteString("window " + strconv.Itoa(number) +
		" rejects " + strconv.Itoa(w.rejects) + " drops " + strconv.Itoa(w.drops) + "\n")
	for key, x := range w.series.Rising() {
		text.WriteString(key + "=" + x.text() + "\n")
	}
	return text.String()
}
