package tally_test

import (
	"fmt"
	"math"
	"slices"
	"strings"
	"testing"

	"tally/api"
	"tally/disk"
	"tally/tally"
)

// started is a daemon on a disk that does not fail.
func started(t *testing.T, c api.Config, d *disk.Disk) *tally.Daemon {
	t.Helper()
	x, e := tally.Start(c, d)
	if x == nil || e != api.OK {
		t.Fatalf("P6: Start(%+v) = %v, %d", c, x, e)
	}
	return x
}

// checkOK: each of these calls was done.
func checkOK(t *testing.T, answers ...api.Errno) {
	t.Helper()
	for i, e := range answers {
		if e != api.OK {
			t.Fatalf("P7, P8: call %d of these answers %d", i, e)
		}
	}
}

func checkAnswer(t *testing.T, why string, got, want api.Errno) {
	t.Helper()
	if got != want {
		t.Errorf("%s: %d, want %d", why, got, want)
	}
}

// summed is the text of a window.
func summed(c api.Config, window int, datagrams ...string) string {
	text, _ := tally.Sum(c, window, datagrams)
	return text
}

// message is what is told of a window.
func message(c api.Config, window int, datagrams ...string) api.Message {
	return api.Message{Window: window, Text: summed(c, window, datagrams...)}
}

// checkOpen: this window is open, with these datagrams.
func checkOpen(t *testing.T, c api.Config, x *tally.Daemon, window int, datagrams ...string) {
	t.Helper()
	want := summed(c, window, datagrams...)
	if n, k, text := x.Open(); n != window || k != len(datagrams) || text != want {
		t.Errorf("P7: Open() = %d, %d, %q, want %d, %d, %q", n, k, text, window, len(datagrams), want)
	}
}

func checkDue(t *testing.T, x *tally.Daemon, want ...api.Message) {
	t.Helper()
	if got := x.Due(); !slices.Equal(got, want) {
		t.Errorf("P8: Due() = %+v, want %+v", got, want)
	}
}

// used is how many bytes a disk's segments have together.
func used(t *testing.T, d *disk.Disk) int {
	t.Helper()
	n := 0
	for _, text := range contents(t, d) {
		n += len(text)
	}
	return n
}

// contents are the texts of a disk's segments, by their numbers.
func contents(t *testing.T, d *disk.Disk) map[int]string {
	t.Helper()
	numbers, e := d.List()
	checkAnswer(t, "P3", e, api.OK)
	l := map[int]string{}
	for _, number := range numbers {
		l[number], _ = d.Read(number)
	}
	return l
}

func TestDaemonOfTheDocument(t *testing.T) {
	c := ordinary()
	x := started(t, c, disk.New())
	checkOK(t, x.Packet("c:1|c"), x.Clock(9))
	checkOpen(t, c, x, 0, "c:1|c")
	checkDue(t, x)
	checkOK(t, x.Clock(10))
	checkDue(t, x, message(c, 0, "c:1|c"))
	checkOpen(t, c, x, 1)
	checkOK(t, x.Clock(35))
	checkOpen(t, c, x, 3)
	checkOK(t, x.Ack(0))
	checkDue(t, x)
}

func TestStartOnANewDisk(t *testing.T) {
	d := disk.New()
	x := started(t, ordinary(), d)
	if n, k, text := x.Open(); n != 0 || k != 0 || text != "window 0 rejects 0 drops 0\n" {
		t.Errorf("P6: Open() = %d, %d, %q", n, k, text)
	}
	checkDue(t, x)
	checkOK(t, x.Sync())
	checkAnswer(t, "P8: nothing is due", x.Ack(0), api.ErrWindow)
	if n := used(t, d); n > 64 {
		t.Errorf("P11: %d bytes", n)
	}
}

// TestStartConfig: a disk is not asked anything, be it down or not, where there is no configuration.
func TestStartConfig(t *testing.T) {
	for _, b := range bounds() {
		for _, v := range []int{math.MinInt, -1, b.least - 1, b.most + 1, math.MaxInt} {
			c := ordinary()
			*b.field(&c) = v
			d := disk.New()
			d.Append(3, "torn")
			if x, e := tally.Start(c, d); x != nil || e != api.ErrConfig {
				t.Errorf("P6: Start with %s %d = %v, %d, want ErrConfig", b.name, v, x, e)
			}
			if text, e := d.Read(3); text != "torn" || e != api.OK {
				t.Errorf("P6: the disk has %q, %d", text, e)
			}
			d.Limit(0, -1)
			if x, e := tally.Start(c, d); x != nil || e != api.ErrConfig {
				t.Errorf("P6: Start with %s %d on a disk that is down = %v, %d, want ErrConfig", b.name, v, x, e)
			}
		}
		for _, v := range []int{b.least, b.most} {
			c := ordinary()
			*b.field(&c) = v
			checkOpen(t, c, started(t, c, disk.New()), 0)
		}
	}
}

func TestStartOnADiskThatIsDown(t *testing.T) {
	d := disk.New()
	d.Limit(0, -1)
	if x, e := tally.Start(ordinary(), d); x != nil || e != api.ErrDisk {
		t.Errorf("P6: Start = %v, %d, want ErrDisk", x, e)
	}
}

func TestPacketLength(t *testing.T) {
	c := ordinary()
	d := disk.New()
	x := started(t, c, d)
	var taken []string
	for n := 0; n <= api.MaxDatagram; n++ {
		s := strings.Repeat("x:1|c\n", 50)[:n]
		checkOK(t, x.Packet(s))
		taken = append(taken, s)
	}
	checkOpen(t, c, x, 0, taken...)
	for _, n := range []int{api.MaxDatagram + 1, api.MaxDatagram + 2, 1 << 16} {
		before := used(t, d)
		checkAnswer(t, "P7: too long", x.Packet(strings.Repeat("x", n)), api.ErrLong)
		if after := used(t, d); after != before {
			t.Errorf("P7: a datagram that is too long takes %d bytes", after-before)
		}
	}
	checkOpen(t, c, x, 0, taken...)
	checkOpen(t, c, started(t, c, d), 0, taken...)
}

// odd are datagrams with bytes of all kinds, some of which look like what a journal may have.
func odd() []string {
	l := []string{"", "\n", "\n\n", ":", "::", "d0:1:a\n", "s0:0:\n", "b9:0:\n", "x:1|c\x00", "\xff\xfe", "x:1|c\nd0", " ", "0", "-1", "x:1|c\r\n"}
	all := ""
	for b := range 256 {
		all += string([]byte{byte(b)})
	}
	return append(l, all, strings.Repeat("\n", api.MaxDatagram))
}

func TestPacketAnyBytes(t *testing.T) {
	for _, segment := range []int{64, 4096} {
		c := ordinary()
		c.Segment = segment
		d := disk.New()
		x := started(t, c, d)
		for i, s := range odd() {
			checkOK(t, x.Packet(s))
			checkOpen(t, c, x, 0, odd()[:i+1]...)
			checkOpen(t, c, started(t, c, d), 0, odd()[:i+1]...)
			x = started(t, c, d)
		}
		checkOK(t, x.Clock(10))
		checkDue(t, x, message(c, 0, odd()...))
		checkDue(t, started(t, c, d), message(c, 0, odd()...))
	}
}

// TestEmptyDatagramsCount: a window with nothing but empty datagrams has datagrams all the same.
func TestEmptyDatagramsCount(t *testing.T) {
	c := ordinary()
	d := disk.New()
	x := started(t, c, d)
	checkOK(t, x.Packet(""))
	checkOpen(t, c, x, 0, "")
	checkOK(t, x.Clock(10))
	checkDue(t, x, message(c, 0, ""))
	checkDue(t, started(t, c, d), message(c, 0, ""))
}

func TestClockNoTime(t *testing.T) {
	c := ordinary()
	x := started(t, c, disk.New())
	checkOK(t, x.Packet("x:1|c"))
	for _, n := range []int{0, -1, -10, math.MinInt, api.MaxTime + 1, api.MaxTime + 10, math.MaxInt32 + 1, 1 << 62, math.MaxInt} {
		checkOK(t, x.Clock(n))
		checkOpen(t, c, x, 0, "x:1|c")
	}
	checkOK(t, x.Clock(57))
	checkOpen(t, c, x, 5)
	for _, n := range []int{57, 56, 10, 0, -1, api.MaxTime + 1} {
		checkOK(t, x.Packet("y:1|c"), x.Clock(n))
	}
	checkOpen(t, c, x, 5, slices.Repeat([]string{"y:1|c"}, 6)...)
	checkDue(t, x, message(c, 0, "x:1|c"))
}

// TestClockWidths: a window is over with the first tick of the next one.
func TestClockWidths(t *testing.T) {
	for _, width := range []int{1, 2, 7, 1000} {
		c := ordinary()
		c.Width = width
		x := started(t, c, disk.New())
		var due []api.Message
		for w := range 5 {
			checkOK(t, x.Packet("x:1|c"), x.Clock(w*width+width-1), x.Packet("x:2|c"))
			checkOpen(t, c, x, w, "x:1|c", "x:2|c")
			checkDue(t, x, due...)
			checkOK(t, x.Clock(w*width+width))
			due = append(due, message(c, w, "x:1|c", "x:2|c"))
			checkOpen(t, c, x, w+1)
			checkDue(t, x, due...)
		}
	}
}

func TestClockAtTheEndOfTime(t *testing.T) {
	for _, width := range []int{1, 7, 1000} {
		c := ordinary()
		c.Width = width
		d := disk.New()
		x := started(t, c, d)
		last := api.MaxTime / width
		checkOK(t, x.Clock(api.MaxTime-width), x.Packet("x:1|c"), x.Clock(api.MaxTime), x.Packet("y:1|c"))
		checkDue(t, x, message(c, (api.MaxTime-width)/width, "x:1|c"))
		checkOpen(t, c, x, last, "y:1|c")
		checkOK(t, x.Clock(api.MaxTime+width), x.Packet("z:1|c"))
		checkOpen(t, c, x, last, "y:1|c", "z:1|c")
		x = started(t, c, d)
		checkOpen(t, c, x, last, "y:1|c", "z:1|c")
		checkOK(t, x.Clock(api.MaxTime), x.Ack((api.MaxTime-width)/width))
		checkOpen(t, c, x, last, "y:1|c", "z:1|c")
		checkOpen(t, c, started(t, c, d), last, "y:1|c", "z:1|c")
	}
}

// TestClockPassesEmptyWindows: none of them is due.
func TestClockPassesEmptyWindows(t *testing.T) {
	c := ordinary()
	d := disk.New()
	x := started(t, c, d)
	for _, n := range []int{9, 10, 19, 500, api.MaxTime} {
		checkOK(t, x.Clock(n))
		checkOpen(t, c, x, n/10)
		checkDue(t, x)
		if n := used(t, d); n > 64 {
			t.Errorf("P11: %d bytes", n)
		}
	}
}

// TestSealedForGood: what comes later changes neither the text nor that the window is due.
func TestSealedForGood(t *testing.T) {
	c := ordinary()
	x := started(t, c, disk.New())
	checkOK(t, x.Packet("x:1|c\nbad"), x.Clock(10))
	zero := message(c, 0, "x:1|c\nbad")
	for i := range 20 {
		checkOK(t, x.Packet("x:1|c\nbad"), x.Clock(i), x.Sync())
		checkDue(t, x, append([]api.Message{zero}, x.Due()[1:]...)...)
	}
}

func TestAck(t *testing.T) {
	c := ordinary()
	x := started(t, c, disk.New())
	for _, w := range []int{0, 2, 3, 7} {
		checkOK(t, x.Clock(10*w), x.Packet(fmt.Sprintf("x:%d|c", w)))
	}
	zero, two, three := message(c, 0, "x:0|c"), message(c, 2, "x:2|c"), message(c, 3, "x:3|c")
	checkDue(t, x, zero, two, three)
	for _, w := range []int{-1, 1, 4, 7, 8, 20, math.MinInt, math.MaxInt, 1 << 32} {
		checkAnswer(t, "P8: not due", x.Ack(w), api.ErrWindow)
	}
	checkDue(t, x, zero, two, three)
	checkOK(t, x.Ack(2))
	checkDue(t, x, zero, three)
	checkAnswer(t, "P8: due no more", x.Ack(2), api.ErrWindow)
	checkOK(t, x.Ack(3), x.Ack(0))
	checkDue(t, x)
	for w := range 8 {
		checkAnswer(t, "P8: nothing is due", x.Ack(w), api.ErrWindow)
	}
	checkOpen(t, c, x, 7, "x:7|c")
	checkOK(t, x.Clock(80), x.Ack(7))
}

// TestOpenAndDueChangeNothing: they may be asked at any time, or never.
func TestOpenAndDueChangeNothing(t *testing.T) {
	c := ordinary()
	c.Buckets = 2
	asked, never := started(t, c, disk.New()), started(t, c, disk.New())
	for i := range 60 {
		s := fmt.Sprintf("x:%d|ms\nx:%d|c\nx:w%d|s\nx:+%d|g\nbad", i, i, i%6, i)
		checkOK(t, asked.Packet(s), never.Packet(s), asked.Clock(i), never.Clock(i))
		asked.Open()
		asked.Due()
	}
	checkDue(t, asked, never.Due()...)
	_, k, text := asked.Open()
	if _, other, again := never.Open(); k != other || text != again {
		t.Errorf("P7: %d, %q, want %d, %q", k, text, other, again)
	}
}

// TestDueIsNew: what is done to a list that came out, and to its spare room, is not to be seen in another.
func TestDueIsNew(t *testing.T) {
	c := ordinary()
	x := started(t, c, disk.New())
	var want []api.Message
	for w := range 5 {
		checkOK(t, x.Packet("x:1|c"), x.Clock(10*w+10))
		want = append(want, message(c, w, "x:1|c"))
		first, second := x.Due(), x.Due()
		spoilt := first[:cap(first)]
		for i := range spoilt {
			spoilt[i] = api.Message{Window: -7, Text: "spoilt"}
		}
		if !slices.Equal(second, want) || slices.Contains(second[:cap(second)], spoilt[0]) {
			t.Errorf("P1: %+v", second)
		}
		checkDue(t, x, want...)
	}
}

// TestDaemonsApart: daemons on disks of their own do not disturb one another.
func TestDaemonsApart(t *testing.T) {
	var configs []api.Config
	var daemons, alone []*tally.Daemon
	for i := range 4 {
		c := ordinary()
		c.Width, c.Segment, c.Shards = 1+3*i, 64+500*i, 1+i
		configs = append(configs, c)
		daemons = append(daemons, started(t, c, disk.New()))
	}
	step := func(x *tally.Daemon, who, i int) {
		checkOK(t, x.Packet(fmt.Sprintf("n%d:%d|c", who, i)), x.Clock(i))
		if due := x.Due(); i%7 == who && len(due) > 0 {
			checkOK(t, x.Ack(due[0].Window))
		}
	}
	for i := range 50 {
		for who, x := range daemons {
			step(x, who, i)
		}
	}
	for who, c := range configs {
		x := started(t, c, disk.New())
		for i := range 50 {
			step(x, who, i)
		}
		alone = append(alone, x)
	}
	for who, x := range daemons {
		checkDue(t, x, alone[who].Due()...)
		a, b, text := x.Open()
		if n, k, want := alone[who].Open(); a != n || b != k || text != want {
			t.Errorf("P1: %d, %d, %q, want %d, %d, %q", a, b, text, n, k, want)
		}
	}
}
