// Package journal writes datagrams down on a disk, by windows, and finds them again.
//
// A window has segments of its own; the last record of its last one is its seal. To forget a window is to delete that
// segment, which is done at once and for good; the window's other segments are of no use then. So that the greatest
// window that was ever sealed stays known, the first segment behind a seal begins with its number.
//
// A segment is synced before another one begins: what is torn stands at the journal's end. What is not synced is kept
// in memory too, so that it is not missing where the power fails, and is back, while the journal goes on.
package journal

import (
	"slices"
	"strconv"

	"tally/api"
	"tally/disk"
)

// Journal is what was written down on a disk.
type Journal struct {
	disk     *disk.Disk
	most     int           // bytes behind which a segment is left for a new one
	sealed   map[int][]int // the segments of each sealed window, rising
	open     []int         // the segments behind the last seal, rising
	synced   int           // how many bytes of the last one of these are synced
	unsynced string        // what it has behind them
	next     int           // the number of the next new segment
	greatest int           // the greatest window that was ever sealed
}

// Open finds what a disk has. All of that is synced then, and nothing else is left on the disk.
func Open(d *disk.Disk, most int) (*Journal, Found, error) {
	segments, err := readSegments(d)
	if err != nil {
		return nil, Found{}, err
	}
	h := readHistory(segments)
	if err := tidy(d, segments, h); err != nil {
		return nil, Found{}, err
	}
	j := &Journal{
		disk:     d,
		most:     most,
		sealed:   map[int][]int{},
		open:     h.Open.segments,
		synced:   h.end.size,
		next:     h.end.segment + 1,
		greatest: h.greatest,
	}
	for _, w := range h.Sealed {
		j.sealed[w.Number] = w.segments
	}
	return j, h.Found, nil
}

// readSegments reads all segments, by rising numbers.
func readSegments(d *disk.Disk) ([]segment, error) {
	numbers, e := d.List()
	if e != api.OK {
		return nil, during("listing the segments", e)
	}
	var segments []segment
	for _, number := range numbers {
		text, e := d.Read(number)
		if e != api.OK {
			return nil, during(about("reading", number), e)
		}
		segments = append(segments, segment{number, text})
	}
	return segments, nil
}

// tidy takes away what does not count, and syncs what does.
func tidy(d *disk.Disk, segments []segment, h *history) error {
	used := h.used()
	for _, s := range segments {
		if err := tidySegment(d, s, used, h.end); err != nil {
			return err
		}
	}
	if len(used) == 0 {
		return nil
	}
	// All the others were synced when it began.
	last := used[len(used)-1]
	return during(about("syncing", last), d.Sync(last))
}

// tidySegment takes away what does not count of a segment.
func tidySegment(d *disk.Disk, s segment, used []int, end place) error {
	if _, found := slices.BinarySearch(used, s.number); !found {
		return during(about("deleting", s.number), d.Delete(s.number))
	}
	// New records would not be found behind one that is not whole.
	if s.number == end.segment && end.size < len(s.text) {
		return during(about("truncating", s.number), d.Truncate(s.number, end.size))
	}
	return nil
}

// about says what was being done to a segment.
func about(doing string, number int) string {
	return doing + " segment " + strconv.Itoa(number)
}

// Write writes down a datagram of the open window.
func (j *Journal) Write(window int, text string) error {
	written := record{datagram, window, text}.written()
	switch {
	case len(j.open) == 0:
		return j.begin(j.head() + written)
	case j.synced+len(j.unsynced) < j.most:
		return j.add(written)
	}
	if err := j.Sync(); err != nil {
		return err
	}
	return j.begin(written)
}

// Sync makes sure of all that was written.
func (j *Journal) Sync() error {
	if len(j.open) == 0 {
		return nil
	}
	if err := j.mend(); err != nil {
		return err
	}
	if e := j.disk.Sync(j.last()); e != api.OK {
		return during(about("syncing", j.last()), e)
	}
	j.synced += len(j.unsynced)
	j.unsynced = ""
	return nil
}

// Seal seals the open window, which has datagrams, for good.
func (j *Journal) Seal(window int) error {
	if err := j.add(record{seal, window, ""}.written()); err != nil {
		return err
	}
	if err := j.Sync(); err != nil {
		return err
	}
	j.sealed[window] = j.open
	j.open = nil
	j.greatest = window
	return nil
}

// Forget takes a sealed window away for good.
func (j *Journal) Forget(window int) error {
	if window == j.greatest {
		if err := j.keepGreatest(); err != nil {
			return err
		}
	}
	// The seal goes first: without it none of the others counts.
	for _, number := range slices.Backward(j.sealed[window]) {
		if e := j.disk.Delete(number); e != api.OK {
			return during(about("deleting", number), e)
		}
	}
	delete(j.sealed, window)
	return nil
}

// keepGreatest makes sure that the greatest sealed window's number stands elsewhere than in its own segments.
func (j *Journal) keepGreatest() error {
	if len(j.open) == 0 {
		if err := j.begin(j.head()); err != nil {
			return err
		}
	}
	return j.Sync()
}

// head is what the first segment behind a seal begins with.
func (j *Journal) head() string {
	if j.greatest == none {
		return ""
	}
	return record{base, j.greatest, ""}.written()
}

// begin writes a text as the beginning of a new segment.
func (j *Journal) begin(text string) error {
	if e := j.disk.Append(j.next, text); e != api.OK {
		return during(about("beginning", j.next), e)
	}
	j.open = append(j.open, j.next)
	j.next++
	j.synced, j.unsynced = 0, text
	return nil
}

// add writes a text behind what the last segment has.
func (j *Journal) add(text string) error {
	if err := j.mend(); err != nil {
		return err
	}
	if e := j.disk.Append(j.last(), text); e != api.OK {
		return during(about("writing to", j.last()), e)
	}
	j.unsynced += text
	return nil
}

// mend writes again what the last segment has lost, if the power failed since: a record behind a torn one would never be found.
func (j *Journal) mend() error {
	text, e := j.disk.Read(j.last())
	if e != api.OK {
		return during(about("reading", j.last()), e)
	}
	// The bounds are for a segment that others have changed.
	left := min(max(len(text)-j.synced, 0), len(j.unsynced))
	if left == len(j.unsynced) {
		return nil
	}
	return during(about("mending", j.last()), j.disk.Append(j.last(), j.unsynced[left:]))
}

// last is the last one of the segments behind the last seal; there must be one.
func (j *Journal) last() int { return j.open[len(j.open)-1] }
