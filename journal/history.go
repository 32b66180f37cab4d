package journal

// none stands for a number where there is no window, or no segment, yet.
const none = -1

// Window is a window as it was written down.
type Window struct {
	Number    int
	Datagrams []string
	segments  []int // in which it stands, rising
}

// enter notes that the window stands in a segment too.
func (w *Window) enter(segment int) {
	if n := len(w.segments); n == 0 || w.segments[n-1] != segment {
		w.segments = append(w.segments, segment)
	}
}

// Found is what a disk was found to have.
type Found struct {
	Sealed []Window // those that were not forgotten, rising
	Open   Window   // what stands behind the last seal
}

// history is what the records tell.
type history struct {
	Found
	greatest int   // the greatest window that was ever sealed
	end      place // of the last record that counts
}

// readHistory goes through the records of all segments.
func readHistory(segments []segment) *history {
	h := &history{greatest: none, end: place{segment: none}}
	for at, r := range records(segments) {
		// Behind a record that was never written there, none counts.
		if !h.fits(r) {
			break
		}
		h.take(at.segment, r)
		h.end = at
	}
	if len(h.Open.Datagrams) == 0 {
		h.Open.Number = h.greatest + 1
	}
	return h
}

// fits tells whether such a record is written behind those that were taken.
func (h *history) fits(r record) bool {
	begun := len(h.Open.Datagrams) > 0
	switch r.kind {
	case datagram:
		return r.window > h.greatest && (!begun || r.window == h.Open.Number)
	case seal:
		return begun && r.window == h.Open.Number
	case base:
		return r.window >= h.greatest
	}
	return false
}

// take takes a record of this segment.
func (h *history) take(segment int, r record) {
	if r.kind == base {
		// What is not sealed ahead of it was left of a window that was being forgotten.
		h.Open = Window{}
	}
	h.Open.enter(segment)
	switch r.kind {
	case datagram:
		h.Open.Number = r.window
		h.Open.Datagrams = append(h.Open.Datagrams, r.text)
	case seal:
		h.Sealed = append(h.Sealed, h.Open)
		h.Open = Window{}
		fallthrough
	case base:
		h.greatest = r.window
	}
}

// used are the segments in which something stands that counts, rising.
func (h *history) used() []int {
	var numbers []int
	for _, w := range h.Sealed {
		numbers = append(numbers, w.segments...)
	}
	return append(numbers, h.Open.segments...)
}
