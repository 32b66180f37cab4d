package journal

import (
	"iter"
	"strconv"
	"strings"

	"tally/api"
)

// kind is what a record says, as it is written.
type kind string

const (
	datagram kind = "d" // the window took this text
	seal     kind = "s" // the window, whose datagrams stand ahead, is sealed
	base     kind = "b" // the window is the greatest one that was ever sealed
)

// record is one thing that is written down.
type record struct {
	kind   kind
	window int
	text   string
}

// written is the record as it stands in a segment. Its length stands ahead of the text, which may have any bytes.
func (r record) written() string {
	return string(r.kind) + strconv.Itoa(r.window) + ":" + strconv.Itoa(len(r.text)) + ":" + r.text + "\n"
}

// readRecord reads the record with which a text begins; false: it is not whole.
func readRecord(text string) (record, bool) {
	head, rest, _ := strings.Cut(text, ":")
	length, rest, _ := strings.Cut(rest, ":")
	n, err := strconv.Atoi(length)
	if err != nil || n < 0 || n > len(rest) || head == "" {
		return record{}, false
	}
	window, err := strconv.Atoi(head[1:])
	if err != nil || window < 0 || window > api.MaxTime {
		return record{}, false
	}
	r := record{kind(head[:1]), window, rest[:n]}
	// The end may be missing, and numbers can be read that are never written so.
	return r, strings.HasPrefix(text, r.written())
}

// segment is a segment of the disk.
type segment struct {
	number int
	text   string
}

// place is where a record ends: its segment, and how many bytes that has up to there.
type place struct {
	segment int
	size    int
}

// records goes through the records of all segments, each with the place where it ends, up to the first one that is not whole.
func records(segments []segment) iter.Seq2[place, record] {
	return func(yield func(place, record) bool) {
		for _, s := range segments {
			for size := 0; size < len(s.text); {
				r, whole := readRecord(s.text[size:])
				if !whole {
					return
				}
				size += len(r.written())
				if !yield(place{s.number, size}, r) {
					return
				}
			}
		}
	}
}
