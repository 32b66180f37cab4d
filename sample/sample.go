// Package sample reads lines of measurements, writes them in their plain form, and tells their series.
package sample

import (
	"slices"
	"strings"

	"tally/api"
)

// Kind is the type of a sample, as the plain form writes it.
type Kind string

const (
	Counter Kind = "c"
	Gauge   Kind = "g"
	Set     Kind = "s"
	Timer   Kind = "ms"
)

// histogram is the other name of a timer; no sample keeps it.
const histogram Kind = "h"

// Sample is what a line says. Numbers count in thousandths.
type Sample struct {
	Name   string
	Kind   Kind
	Signed bool // a gauge with a sign ahead: a step, even where it is 0
	Value  int
	Word   string // of a set, in place of a value
	Rate   int
	Tags   []string // each once, rising
}

// Read reads a line; false: it is none.
func Read(line string) (Sample, bool) {
	name, rest, ok := strings.Cut(line, ":")
	if !ok || !isName(name) {
		return Sample{}, false
	}
	value, rest, ok := strings.Cut(rest, "|")
	if !ok {
		return Sample{}, false
	}
	kind, rest, more := strings.Cut(rest, "|")
	s := Sample{Name: name, Rate: Whole}
	if !s.readValue(Kind(kind), value) {
		return Sample{}, false
	}
	if more && !s.readOptions(rest) {
		return Sample{}, false
	}
	return s, true
}

// readValue reads the value as its kind asks; false: one of the two is none.
func (s *Sample) readValue(kind Kind, value string) bool {
	var signs string
	switch kind {
	case Set:
		s.Kind, s.Word = kind, value
		return isWord(value, api.MaxWord)
	case Counter:
		signs = "-"
	case Gauge:
		signs = "+-"
	case histogram:
		kind = Timer
		fallthrough
	case Timer:
		signs = ""
	default:
		return false
	}
	sign, digits := cutSign(value, signs)
	number, ok := readNumber(digits)
	if sign == "-" {
		number = -number
	}
	s.Kind, s.Value = kind, number
	s.Signed = kind == Gauge && sign != ""
	return ok
}

// cutSign takes away the sign ahead, if it is one of those that may stand there.
func cutSign(value, signs string) (sign, rest string) {
	if value != "" && strings.IndexByte(signs, value[0]) >= 0 {
		return value[:1], value[1:]
	}
	return "", value
}

// readOptions reads what stands behind the type and its bar: a rate, tags, or both in this order.
func (s *Sample) readOptions(text string) bool {
	rate, isRate := strings.CutPrefix(text, "@")
	if !isRate {
		return s.readTags(text)
	}
	if s.Kind == Gauge || s.Kind == Set {
		return false
	}
	rate, tags, more := strings.Cut(rate, "|")
	n, ok := readRate(rate)
	s.Rate = n
	return ok && (!more || s.readTags(tags))
}

// readTags reads the tags with their mark ahead.
func (s *Sample) readTags(text string) bool {
	list, ok := strings.CutPrefix(text, "#")
	if !ok {
		return false
	}
	// One piece more than there may be shows that there are too many, however long the text is.
	tags := strings.SplitN(list, ",", api.MaxTags+1)
	if len(tags) > api.MaxTags {
		return false
	}
	for _, tag := range tags {
		if !isWord(tag, api.MaxTag) {
			return false
		}
	}
	slices.Sort(tags)
	s.Tags = slices.Compact(tags)
	return true
}

// Key tells to which series the sample belongs.
func (s Sample) Key() string {
	return s.Name + "|" + string(s.Kind) + s.plainTags()
}

// Plain writes the sample's plain form.
func (s Sample) Plain() string {
	text := s.Name + ":" + s.plainValue() + "|" + string(s.Kind)
	if s.Rate != Whole {
		text += "|@" + writeNumber(s.Rate)
	}
	return text + s.plainTags()
}

// plainValue writes the value.
func (s Sample) plainValue() string {
	switch {
	case s.Kind == Set:
		return s.Word
	case s.Signed && s.Value >= 0:
		return "+" + writeNumber(s.Value)
	}
	return writeNumber(s.Value)
}

// plainTags writes the tags with their marks ahead, or nothing.
func (s Sample) plainTags() string {
	if len(s.Tags) == 0 {
		return ""
	}
	return "|#" + strings.Join(s.Tags, ",")
}
