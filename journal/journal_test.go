package journal

import (
	"errors"
	"fmt"
	"math"
	"math/rand"
	"reflect"
	"slices"
	"strings"
	"testing"

	"tally/api"
	"tally/disk"
)

func opened(t *testing.T, d *disk.Disk, most int) (*Journal, Found) {
	t.Helper()
	j, found, err := Open(d, most)
	if err != nil {
		t.Fatalf("Open: %v", err)
	}
	return j, found
}

func done(t *testing.T, err error) {
	t.Helper()
	if err != nil {
		t.Fatal(err)
	}
}

// texts are the segments of a disk, by rising numbers.
func texts(t *testing.T, d *disk.Disk) []string {
	t.Helper()
	segments, err := readSegments(d)
	done(t, err)
	var l []string
	for _, s := range segments {
		l = append(l, s.text)
	}
	return l
}

func checkTexts(t *testing.T, d *disk.Disk, want ...string) {
	t.Helper()
	if got := texts(t, d); !slices.Equal(got, want) {
		t.Errorf("the disk has %q, want %q", got, want)
	}
}

// checkFound: these sealed windows and this open one, all as numbers with their datagrams behind them.
func checkFound(t *testing.T, found Found, want ...string) {
	t.Helper()
	var got []string
	for _, w := range append(slices.Clone(found.Sealed), found.Open) {
		got = append(got, fmt.Sprintf("%d %s", w.Number, strings.Join(w.Datagrams, " ")))
	}
	if !slices.Equal(got, want) {
		t.Errorf("found %q, want %q", got, want)
	}
}

// laidOut is a disk with these segments, numbered from 0 on, of which the last one is not synced.
func laidOut(texts ...string) *disk.Disk {
	d := disk.New()
	for i, text := range texts {
		d.Sync(i - 1)
		d.Append(i, text)
	}
	return d
}

func TestJournal(t *testing.T) {
	d := disk.New()
	j, found := opened(t, d, 64)
	checkFound(t, found, "0 ")
	checkTexts(t, d)
	done(t, j.Sync())
	done(t, j.Write(0, "a"))
	done(t, j.Write(0, "b\n"))
	checkTexts(t, d, "d0:1:a\nd0:2:b\n\n")
	done(t, j.Seal(0))
	done(t, j.Write(3, "c"))
	done(t, j.Sync())
	checkTexts(t, d, "d0:1:a\nd0:2:b\n\ns0:0:\n", "b0:0:\nd3:1:c\n")
	_, found = opened(t, d, 64)
	checkFound(t, found, "0 a b\n", "3 c")
	done(t, j.Forget(0))
	checkTexts(t, d, "b0:0:\nd3:1:c\n")
	done(t, j.Seal(3))
	done(t, j.Forget(3))
	checkTexts(t, d, "b3:0:\n")
	j, found = opened(t, d, 64)
	checkFound(t, found, "4 ")
	done(t, j.Write(4, "d"))
	checkTexts(t, d, "b3:0:\nd4:1:d\n")
}

// TestForgetInAnyOrder: whichever windows are left, the greatest that was sealed stays known.
func TestForgetInAnyOrder(t *testing.T) {
	for _, order := range [][]int{{1, 2, 5}, {5, 2, 1}, {2, 5, 1}, {1, 5, 2}, {5, 1, 2}} {
		d := disk.New()
		j, _ := opened(t, d, 64)
		for _, w := range []int{1, 2, 5} {
			done(t, j.Write(w, fmt.Sprint("of", w)))
			done(t, j.Seal(w))
		}
		left := []int{1, 2, 5}
		for _, w := range order {
			done(t, j.Forget(w))
			left = slices.DeleteFunc(left, func(l int) bool { return l == w })
			var want []string
			for _, l := range left {
				want = append(want, fmt.Sprint(l, " of", l))
			}
			var found Found
			j, found = opened(t, d, 64)
			checkFound(t, found, append(want, "6 ")...)
		}
		checkTexts(t, d, "b5:0:\n")
	}
}

// TestSegments: a segment is left when it has its bytes, and is synced then; no two windows share one.
func TestSegments(t *testing.T) {
	for _, most := range []int{64, 100, 4096} {
		d := disk.New()
		j, _ := opened(t, d, most)
		for i := range 300 {
			done(t, j.Write(i/100, strings.Repeat("x", i%50)))
			if i%100 == 99 {
				done(t, j.Seal(i/100))
			}
			if i%7 == 0 {
				j, _ = opened(t, d, most)
			}
		}
		for i, text := range texts(t, d) {
			windows, last := map[int]int{}, 0
			for at, r := range records([]segment{{i, text}}) {
				if r.kind == datagram {
					windows[r.window]++
					last = at.size - len(r.written())
				}
			}
			if len(windows) != 1 || last >= most {
				t.Errorf("segment %d with %d bytes, of %d, has records of %v", i, len(text), most, windows)
			}
		}
		d.Crash(0)
		_, found := opened(t, d, most)
		if len(found.Sealed) != 3 || len(found.Sealed[1].Datagrams) != 100 {
			t.Errorf("found %+v", found)
		}
	}
}

// TestOpenTidies: what does not count goes, and what counts stays as it is.
func TestOpenTidies(t *testing.T) {
	for _, c := range []struct {
		had, left, found []string
	}{
		{[]string{""}, nil, []string{"0 "}},
		{[]string{"d0:1"}, nil, []string{"0 "}},
		{[]string{"d0:1:a\nd0:1:b"}, []string{"d0:1:a\n"}, []string{"0 a"}},
		{[]string{"d0:1:a\n", ""}, []string{"d0:1:a\n"}, []string{"0 a"}},
		{[]string{"d0:1:a\ns0:0:\n", "b0:0"}, []string{"d0:1:a\ns0:0:\n"}, []string{"0 a", "1 "}},
		{[]string{"d0:1:a\ns0:0:\n", "b0:0:\nd7:1"}, []string{"d0:1:a\ns0:0:\n", "b0:0:\n"}, []string{"0 a", "1 "}},
		// The window 0 was being forgotten; its seal is gone.
		{[]string{"d0:1:a\n", "d0:1:b\n", "b0:0:\n"}, []string{"b0:0:\n"}, []string{"1 "}},
		{[]string{"d0:1:a\n", "b0:0:\nd2:1:b\ns2:0:\n", "b2:0:\nd4:1:c\n"}, []string{"b0:0:\nd2:1:b\ns2:0:\n", "b2:0:\nd4:1:c\n"}, []string{"2 b", "4 c"}},
		// Nothing counts behind what was never written so.
		{[]string{"d5:1:a\nd4:1:b\n", "d5:1:c\n"}, []string{"d5:1:a\n"}, []string{"5 a"}},
		{[]string{"d5:1:a\ns4:0:\n"}, []string{"d5:1:a\n"}, []string{"5 a"}},
		{[]string{"s4:0:\n"}, nil, []string{"0 "}},
		{[]string{"b4:0:\nd4:1:a\n"}, []string{"b4:0:\n"}, []string{"5 "}},
		{[]string{"b4:0:\nb3:0:\n"}, []string{"b4:0:\n"}, []string{"5 "}},
		{[]string{"d0:1:a\nx0:0:\n"}, []string{"d0:1:a\n"}, []string{"0 a"}},
	} {
		d := laidOut(c.had...)
		for range 2 {
			_, found := opened(t, d, 64)
			checkFound(t, found, c.found...)
			checkTexts(t, d, c.left...)
			d.Crash(0)
		}
	}
}

func TestFailure(t *testing.T) {
	full, down := disk.New(), disk.New()
	full.Limit(-1, 0)
	down.Limit(1, -1)
	for _, c := range []struct {
		d    *disk.Disk
		want api.Errno
	}{{full, api.ErrFull}, {down, api.ErrDown}} {
		j, _ := opened(t, c.d, 64)
		err := j.Write(0, "a")
		if c.d == down {
			done(t, err)
			err = j.Write(0, "a")
		}
		var f *Failure
		if !errors.Is(err, c.want) || !errors.As(err, &f) || f.Doing == "" || !strings.Contains(err.Error(), f.Doing) || errors.Is(err, api.ErrSegment) {
			t.Errorf("%v, want %v", err, c.want)
		}
	}
	if j, found, err := Open(down, 64); j != nil || !errors.Is(err, api.ErrDown) || !reflect.DeepEqual(found, Found{}) {
		t.Errorf("Open of a disk that is down: %v", err)
	}
	if err := during("doing nothing", api.OK); err != nil {
		t.Errorf("%v where nothing failed", err)
	}
}

// TestFailureTellsWhatWasDone: whatever the disk was asked, its error is found again, with what was being done.
func TestFailureTellsWhatWasDone(t *testing.T) {
	write := func(j *Journal) error { return j.Write(2, "c") }
	two := []string{"d0:1:a\ns0:0:\n", "b0:0:\nd1:1:b\ns1:0:\n"}
	for _, c := range []struct {
		had        []string
		left, room int
		call       func(j *Journal) error // none: Open itself
		doing      string
		want       api.Errno
	}{
		{two, 0, -1, nil, "listing the segments", api.ErrDown},
		{[]string{"d0:1:a\n", "d0:1:b\n", "b0:0:\n"}, 1, -1, nil, "deleting segment 1", api.ErrDown},
		{[]string{"d0:1:a\n", "b0:0:\nd1:"}, 1, -1, nil, "truncating segment 1", api.ErrDown},
		{[]string{"d0:1:a\nd0:"}, 1, 0, nil, "syncing segment 0", api.ErrDown},
		{nil, 0, 0, write, "beginning segment 0", api.ErrDown},
		{nil, 1, 6, write, "beginning segment 0", api.ErrFull},
		{two, 0, -1, write, "beginning segment 2", api.ErrDown},
		{[]string{"d2:1:a\n"}, 0, -1, write, "reading segment 0", api.ErrDown},
		{[]string{"d2:1:a\n"}, 1, 13, write, "writing to segment 0", api.ErrFull},
		{[]string{"d2:1:a\n"}, 0, -1, (*Journal).Sync, "reading segment 0", api.ErrDown},
		{two, 0, -1, func(j *Journal) error { return j.Forget(0) }, "deleting segment 0", api.ErrDown},
		{two, 0, -1, func(j *Journal) error { return j.Forget(1) }, "beginning segment 2", api.ErrDown},
		{two, -1, 0, func(j *Journal) error { return j.Forget(1) }, "beginning segment 2", api.ErrFull},
	} {
		d := laidOut(c.had...)
		var err error
		if c.call == nil {
			d.Limit(c.left, c.room)
			_, _, err = Open(d, 64)
		} else {
			j, _ := opened(t, d, 64)
			d.Limit(c.left, c.room)
			err = c.call(j)
		}
		checkFailure(t, err, c.doing, c.want)
	}
}

func checkFailure(t *testing.T, err error, doing string, want api.Errno) {
	t.Helper()
	var f *Failure
	if !errors.As(err, &f) || f.Doing != doing || !errors.Is(err, want) {
		t.Errorf("%v, want %s: %v", err, doing, want)
	}
}

// TestMend: what the power took is written again, ahead of anything else.
func TestMend(t *testing.T) {
	for torn := range 9 {
		d := disk.New()
		j, _ := opened(t, d, 64)
		done(t, j.Write(0, "a"))
		done(t, j.Sync())
		done(t, j.Write(0, "b"))
		d.Crash(torn)
		done(t, j.Write(0, "c"))
		checkTexts(t, d, "d0:1:a\nd0:1:b\nd0:1:c\n")
		d.Crash(torn)
		done(t, j.Sync())
		checkTexts(t, d, "d0:1:a\nd0:1:b\nd0:1:c\n")
		done(t, j.Write(0, "d"))
		d.Crash(min(torn, 6))
		d.Limit(-1, 0)
		checkFailure(t, j.Sync(), "mending segment 0", api.ErrFull)
		d.Limit(-1, -1)
		done(t, j.Seal(0))
		d.Crash(0)
		checkTexts(t, d, "d0:1:a\nd0:1:b\nd0:1:c\nd0:1:d\ns0:0:\n")
		done(t, j.Write(1, "e"))
		d.Crash(torn)
		done(t, j.Forget(0))
		checkTexts(t, d, "b0:0:\nd1:1:e\n")
	}
}

// TestMendOthersWork: a segment that others have changed is not written twice, and no call panics.
func TestMendOthersWork(t *testing.T) {
	for n := range 15 {
		d := disk.New()
		j, _ := opened(t, d, 64)
		done(t, j.Write(0, "a"))
		done(t, j.Sync())
		done(t, j.Write(0, "b"))
		d.Truncate(0, n)
		done(t, j.Sync())
		d.Append(0, "more")
		done(t, j.Write(0, "c"))
		d.Delete(0)
		checkFailure(t, j.Sync(), "reading segment 0", api.ErrSegment)
	}
}

// TestOpenAnything: whatever a disk has, every call ends; what is left of it counts.
func TestOpenAnything(t *testing.T) {
	r := rand.New(rand.NewSource(7))
	pieces := []string{"d0:1:a\n", "d1:1:b\n", "d2:0:\n", "s0:0:\n", "s1:0:\n", "b0:0:\n", "b1:0:\n", "b1000000000:0:\n", "d1000000000:1:c\n", "s1000000000:0:\n", "d0:", "\n", "x", "d1:1:b\ns1:0:\n"}
	for range 3000 {
		d := disk.New()
		for _, number := range []int{0, 1, 2, 7, math.MaxInt - 1, math.MaxInt} {
			for range r.Intn(4) {
				d.Append(number, pieces[r.Intn(len(pieces))])
			}
		}
		j, found := opened(t, d, 64)
		_, again := opened(t, d, 64)
		if !reflect.DeepEqual(found, again) {
			t.Fatalf("found %+v, then %+v", found, again)
		}
		for _, w := range found.Sealed {
			j.Forget(w.Number)
		}
		j.Write(found.Open.Number, "more")
		j.Sync()
		opened(t, d, 64)
	}
}
