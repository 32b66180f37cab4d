package journal

import (
	"slices"
	"strings"
	"testing"

	"tally/api"
)

// samples are records of all kinds, with texts that look like records too.
func samples() []record {
	return []record{
		{datagram, 0, "c:1|c"},
		{datagram, 7, ""},
		{datagram, 7, "\n"},
		{datagram, 7, "d7:3:abc\n"},
		{datagram, 10, "::\x00\xff\r\n\n"},
		{datagram, api.MaxTime, strings.Repeat("x", api.MaxDatagram)},
		{seal, 7, ""},
		{seal, api.MaxTime, ""},
		{base, 0, ""},
		{base, api.MaxTime, ""},
	}
}

func TestRecordIsReadAsWritten(t *testing.T) {
	for _, r := range samples() {
		for _, behind := range []string{"", "d", "d7:3:abc\n", "\n"} {
			if got, whole := readRecord(r.written() + behind); got != r || !whole {
				t.Errorf("%+v is read as %+v, %v", r, got, whole)
			}
		}
	}
}

// TestTornRecord: no beginning of a record is a record.
func TestTornRecord(t *testing.T) {
	for _, r := range samples() {
		text := r.written()
		for n := range len(text) {
			if got, whole := readRecord(text[:n]); whole {
				t.Errorf("%q, torn from %q, is read as %+v", text[:n], text, got)
			}
		}
	}
}

func TestNoRecord(t *testing.T) {
	for _, text := range []string{
		"", ":", "::", ":::", "\n", "d", "d:0:\n", ":0:\n", "d1::\n", "d1:0:", "d1:0:x\n", "d1:2:x\n", "d1:1:x\r", "d1:1:xx\n",
		"d-1:0:\n", "d+1:0:\n", "d01:0:\n", "d 1:0:\n", "d1:-1:\n", "d1:+1:x\n", "d1:01:x\n", "d1:0x1:x\n", "dd1:0:\n",
		"d1000000001:0:\n", "d9223372036854775808:0:\n", "d-9223372036854775808:0:\n",
		"d1:9223372036854775807:\n", "d1:9223372036854775808:\n", "d1:-9223372036854775808:\n", "\xff1:0:\r",
	} {
		if got, whole := readRecord(text); whole {
			t.Errorf("%q is read as %+v", text, got)
		}
	}
}

// TestRecordSizes: P11 leaves 32 bytes for a datagram, with the head of a segment ahead of it, and 64 for a seal.
func TestRecordSizes(t *testing.T) {
	text := strings.Repeat("x", api.MaxDatagram)
	if n := len(record{base, api.MaxTime, ""}.written()) + len(record{datagram, api.MaxTime, text}.written()); n > len(text)+32 {
		t.Errorf("P11: a datagram of %d bytes takes %d", len(text), n)
	}
	if n := len(record{seal, api.MaxTime, ""}.written()); n > 64 {
		t.Errorf("P11: a seal takes %d bytes", n)
	}
}

// laid lays the sample records into segments of so many records each; a torn one stands at the end.
func laid(each int, torn string) []segment {
	var segments []segment
	for l := range slices.Chunk(samples(), each) {
		s := segment{number: 3 * len(segments)}
		for _, r := range l {
			s.text += r.written()
		}
		segments = append(segments, s)
	}
	segments[len(segments)-1].text += torn
	return segments
}

func TestRecords(t *testing.T) {
	for each := 1; each <= len(samples()); each++ {
		for _, torn := range []string{"", "d", "d7:3:ab", "x\n"} {
			segments := laid(each, torn)
			var got []record
			for at, r := range records(segments) {
				s := segments[at.segment/3]
				if at.segment != s.number || !strings.HasSuffix(s.text[:at.size], r.written()) {
					t.Errorf("%+v does not end at %+v", r, at)
				}
				got = append(got, r)
			}
			if !slices.Equal(got, samples()) {
				t.Errorf("%d a segment: %+v", each, got)
			}
		}
	}
}

// TestRecordsEndAtATornOne: what stands behind it does not come, be it in the same segment or in a later one.
func TestRecordsEndAtATornOne(t *testing.T) {
	whole := record{datagram, 1, "x"}.written()
	for _, c := range []struct {
		want  int
		texts []string
	}{
		{0, nil},
		{0, []string{""}},
		{2, []string{"", whole, "", whole}},
		{1, []string{whole + "d1:1:x", whole}},
		{1, []string{whole + "torn\n" + whole}},
		{0, []string{"d", whole}},
		{2, []string{whole, whole, whole[:3], whole}},
	} {
		var segments []segment
		for i, text := range c.texts {
			segments = append(segments, segment{i, text})
		}
		n := 0
		for range records(segments) {
			n++
		}
		if n != c.want {
			t.Errorf("of %q come %d records, want %d", c.texts, n, c.want)
		}
	}
}

func TestRecordsStopEarly(t *testing.T) {
	for each := 1; each <= 3; each++ {
		for stop := range samples() {
			var got []record
			for _, r := range records(laid(each, "d")) {
				if len(got) == stop {
					break
				}
				got = append(got, r)
			}
			if !slices.Equal(got, samples()[:stop]) {
				t.Errorf("%d records came ahead of %d", len(got), stop)
			}
		}
	}
}

func FuzzReadRecord(f *testing.F) {
	for _, r := range samples() {
		f.Add(r.written())
	}
	f.Fuzz(func(t *testing.T, text string) {
		r, whole := readRecord(text)
		if whole && (!strings.HasPrefix(text, r.written()) || r.window < 0 || r.window > api.MaxTime) {
			t.Errorf("%q is read as %+v", text, r)
		}
	})
}
