package tally

import (
	"cmp"
	"maps"
	"slices"

	"tally/api"
)

// Sink takes messages.
type Sink struct {
	taken map[int]api.Message // by windows
}

// NewSink makes a sink (P12).
func NewSink() *Sink { return &Sink{} }

// Take takes a message (P12).
func (k *Sink) Take(m api.Message) api.Errno {
	if _, ok := k.taken[m.Window]; ok {
		return api.ErrTwice
	}
	// Made here, so that a sink that NewSink did not make is as good as a new one.
	if k.taken == nil {
		k.taken = map[int]api.Message{}
	}
	k.taken[m.Window] = m
	return api.OK
}

// Taken tells what was taken (P12).
func (k *Sink) Taken() []api.Message {
	return rising(k.taken)
}

// rising are the messages by rising windows, in a new list.
func rising(messages map[int]api.Message) []api.Message {
	return slices.SortedFunc(maps.Values(messages), byWindow)
}

// byWindow orders messages by rising windows.
func byWindow(a, b api.Message) int { return cmp.Compare(a.Window, b.Window) }
