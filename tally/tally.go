// Package tally: measurements, journaled, summed up by windows, and sent on just once: see DOC.md.
package tally

import (
	"tally/api"
	"tally/sample"
	"tally/sketch"
	"tally/window"
)

// Check tells whether there is a configuration (P4).
func Check(c api.Config) api.Errno {
	if within(c.Width, 1, 1000) && within(c.Series, 1, 32) && within(c.Sets, 1, 16) &&
		within(c.Buckets, 2, 64) && within(c.Shards, 1, 16) && within(c.Segment, 64, 4096) {
		return api.OK
	}
	return api.ErrConfig
}

// within tells whether n is from least to most.
func within(n, least, most int) bool { return n >= least && n <= most }

// Parse tells a line's plain form (P4).
func Parse(line string) (string, api.Errno) {
	s, ok := sample.Read(line)
	if !ok {
		return "", api.ErrLine
	}
	return s.Plain(), api.OK
}

// Bucket tells a value's bucket, and what it stands for (P4).
func Bucket(v int) (int, int) { return sketch.Bucket(v) }

// Sum tells the text of a window (P5).
func Sum(c api.Config, window int, datagrams []string) (string, api.Errno) {
	if e := Check(c); e != api.OK {
		return "", e
	}
	return summed(c, datagrams).Text(window), api.OK
}

// summed is the window that took these datagrams.
func summed(c api.Config, datagrams []string) *window.Window {
	w := window.New(c)
	for _, datagram := range datagrams {
		w.Take(datagram)
	}
	return w
}
