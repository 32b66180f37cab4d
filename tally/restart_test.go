package tally_test

import (
	"fmt"
	"maps"
	"math"
	"math/rand"
	"slices"
	"strings"
	"testing"

	"tally/api"
	"tally/disk"
)

// TestRestart: a new daemon goes on with what another one wrote, and its clock is 0.
func TestRestart(t *testing.T) {
	c := ordinary()
	d := disk.New()
	x := started(t, c, d)
	checkOK(t, x.Packet("x:1|c"), x.Clock(10), x.Packet("x:2|c"), x.Clock(57), x.Packet("x:3|c"), x.Packet("y:1|g"))
	zero, one, five := message(c, 0, "x:1|c"), message(c, 1, "x:2|c"), message(c, 5, "x:3|c", "y:1|g", "x:4|c", "x:5|c")
	x = started(t, c, d)
	checkDue(t, x, zero, one)
	checkOpen(t, c, x, 5, "x:3|c", "y:1|g")
	// The clock is 0 again: what was no time any more is time now, but window 5 is open.
	checkOK(t, x.Clock(30), x.Packet("x:4|c"), x.Clock(59), x.Packet("x:5|c"))
	checkOpen(t, c, x, 5, "x:3|c", "y:1|g", "x:4|c", "x:5|c")
	checkOK(t, x.Clock(60), x.Ack(1))
	checkDue(t, x, zero, five)
	x = started(t, c, d)
	checkDue(t, x, zero, five)
	checkAnswer(t, "P10: it was due no more", x.Ack(1), api.ErrWindow)
	checkOpen(t, c, x, 6)
	checkOK(t, x.Ack(5), x.Ack(0))
	checkDue(t, started(t, c, d))
}

// TestRestartOpensTheNextWindow: where the open one has no datagrams, it is the one above the greatest that was sealed.
func TestRestartOpensTheNextWindow(t *testing.T) {
	c := ordinary()
	d := disk.New()
	x := started(t, c, d)
	checkOK(t, x.Clock(95))
	checkOpen(t, c, x, 9)
	x = started(t, c, d)
	checkOpen(t, c, x, 0)
	checkOK(t, x.Clock(35), x.Packet("x:1|c"), x.Clock(95))
	checkOpen(t, c, x, 9)
	x = started(t, c, d)
	checkOpen(t, c, x, 4)
	checkOK(t, x.Ack(3))
	for range 3 {
		x = started(t, c, d)
		checkOpen(t, c, x, 4)
		checkDue(t, x)
	}
	checkOK(t, x.Packet("x:2|c"), x.Clock(45))
	checkOpen(t, c, x, 4, "x:2|c")
	checkOK(t, x.Clock(50))
	checkDue(t, x, message(c, 4, "x:2|c"))
	checkOK(t, x.Ack(4))
	checkOpen(t, c, started(t, c, d), 5)
}

// TestRestartForgetsNoGreatest: in whatever order windows are acked, the next one is above all that were ever sealed.
func TestRestartForgetsNoGreatest(t *testing.T) {
	for _, order := range [][]int{{0, 1, 2}, {2, 1, 0}, {1, 2, 0}, {2, 0, 1}} {
		c := ordinary()
		d := disk.New()
		x := started(t, c, d)
		for w := range 3 {
			checkOK(t, x.Packet("x:1|c"), x.Clock(10*w+10))
		}
		for _, w := range order {
			checkOK(t, x.Ack(w))
			x = started(t, c, d)
			checkOpen(t, c, x, 3)
		}
		checkDue(t, x)
		if n := used(t, d); n > 64 {
			t.Errorf("P11: %d bytes", n)
		}
	}
}

// TestStartChangesNothing: a disk on which nothing has failed has no more and no less behind a Start.
func TestStartChangesNothing(t *testing.T) {
	c := ordinary()
	c.Segment = 64
	d := disk.New()
	x := started(t, c, d)
	for i := range 100 {
		checkOK(t, x.Packet(strings.Repeat("x:1|c\n", i%30)), x.Clock(i))
		if i%31 == 30 {
			checkOK(t, x.Ack(i/10-1))
		}
		before := contents(t, d)
		started(t, c, d)
		if after := contents(t, d); !maps.Equal(before, after) {
			t.Fatalf("P10: the disk has %v, had %v", after, before)
		}
		x = started(t, c, d)
		x.Clock(i)
	}
}

// TestSyncedLasts: what was synced, by Sync, by a Start or by a sealing, is there behind a failure of the power.
func TestSyncedLasts(t *testing.T) {
	c := ordinary()
	d := disk.New()
	x := started(t, c, d)
	checkOK(t, x.Packet("x:1|c"), x.Packet("x:2|c"), x.Sync(), x.Sync())
	d.Crash(0)
	x = started(t, c, d)
	checkOpen(t, c, x, 0, "x:1|c", "x:2|c")
	checkOK(t, x.Packet("x:3|c"))
	x = started(t, c, d)
	d.Crash(0)
	x = started(t, c, d)
	checkOpen(t, c, x, 0, "x:1|c", "x:2|c", "x:3|c")
	checkOK(t, x.Packet("x:4|c"), x.Clock(10))
	d.Crash(0)
	x = started(t, c, d)
	checkDue(t, x, message(c, 0, "x:1|c", "x:2|c", "x:3|c", "x:4|c"))
	checkOpen(t, c, x, 1)
	checkOK(t, x.Ack(0))
	d.Crash(0)
	x = started(t, c, d)
	checkDue(t, x)
	checkOpen(t, c, x, 1)
}

// TestBytesOfTheGreatestNumbers: P11 holds where windows have as many digits as they can.
func TestBytesOfTheGreatestNumbers(t *testing.T) {
	c := ordinary()
	c.Width, c.Segment = 1, 64
	d := disk.New()
	x := started(t, c, d)
	for n := api.MaxTime - 5; n < api.MaxTime; n++ {
		checkOK(t, x.Clock(n))
		for _, size := range []int{0, 1, 10, 99, 100, api.MaxDatagram} {
			checkTakes(t, d, size+32, func() api.Errno { return x.Packet(strings.Repeat("x", size)) })
		}
		checkTakes(t, d, 64, x.Sync)
		checkTakes(t, d, 64, func() api.Errno { return x.Clock(n + 1) })
		checkTakes(t, d, 64, func() api.Errno { return x.Ack(n) })
		if n := used(t, d); n > 64 {
			t.Errorf("P11: %d bytes are left", n)
		}
		checkOpen(t, c, started(t, c, d), n+1)
	}
	checkTakes(t, d, 32, func() api.Errno { return x.Packet("") })
}

// checkTakes: a call that is done takes no more bytes than these.
func checkTakes(t *testing.T, d *disk.Disk, most int, call func() api.Errno) {
	t.Helper()
	before := used(t, d)
	checkOK(t, call())
	if after := used(t, d); after-before > most {
		t.Errorf("P11: it takes %d bytes, may take %d", after-before, most)
	}
}

// TestAckGivesBytesBack: whatever else is due or open, a window that is due no more takes no bytes.
func TestAckGivesBytesBack(t *testing.T) {
	c := ordinary()
	d := disk.New()
	x := started(t, c, d)
	for w := range 50 {
		checkOK(t, x.Packet(strings.Repeat("x", 200)), x.Packet(strings.Repeat("y", 200)), x.Clock(10*w+10))
	}
	for w := 49; w > 0; w-- {
		checkOK(t, x.Ack(w))
	}
	if n := used(t, d); n > 2*200+3*64 {
		t.Errorf("P11: %d bytes are left for one window", n)
	}
	checkDue(t, started(t, c, d), message(c, 0, strings.Repeat("x", 200), strings.Repeat("y", 200)))
}

// plan is what the document says of a daemon, with lists in place of a disk.
type plan struct {
	c         api.Config
	clock     int
	open      int
	datagrams []string
	due       []api.Message
	greatest  int
}

func (p *plan) tick(n int) {
	if n <= p.clock || n > api.MaxTime {
		return
	}
	p.clock = n
	if n/p.c.Width <= p.open {
		return
	}
	if len(p.datagrams) > 0 {
		p.due = append(p.due, message(p.c, p.open, p.datagrams...))
		p.greatest = p.open
	}
	p.open, p.datagrams = n/p.c.Width, nil
}

func (p *plan) packet(s string) api.Errno {
	if len(s) > api.MaxDatagram {
		return api.ErrLong
	}
	p.datagrams = append(p.datagrams, s)
	return api.OK
}

func (p *plan) ack(window int) api.Errno {
	at := slices.IndexFunc(p.due, func(m api.Message) bool { return m.Window == window })
	if at < 0 {
		return api.ErrWindow
	}
	p.due = slices.Delete(p.due, at, at+1)
	return api.OK
}

func (p *plan) restart() {
	p.clock = 0
	if len(p.datagrams) == 0 {
		p.open = p.greatest + 1
	}
}

// anyConfig is a configuration with small windows.
func anyConfig(r *rand.Rand) api.Config {
	return api.Config{Width: 1 + r.Intn(12), Series: 1 + r.Intn(8), Sets: 1 + r.Intn(4), Buckets: 2 + r.Intn(6), Shards: 1 + r.Intn(16), Segment: []int{64, 64, 100, 500, 4096}[r.Intn(5)]}
}

// anyDatagram is a datagram of a few lines, now and then one that is too long.
func anyDatagram(r *rand.Rand) string {
	if r.Intn(30) == 0 {
		return strings.Repeat("x", api.MaxDatagram-1+r.Intn(4))
	}
	var lines []string
	for range r.Intn(5) {
		lines = append(lines, anyLine(r))
	}
	return strings.Join(lines, "\n")
}

// anyTime is a time near the clock, or now and then none.
func anyTime(r *rand.Rand, p *plan) int {
	if r.Intn(10) == 0 {
		return []int{-1, 0, p.clock, p.clock - 1, api.MaxTime + 1, math.MinInt, math.MaxInt}[r.Intn(7)]
	}
	return p.clock + r.Intn(2*p.c.Width+1)
}

// anyWindow is mostly one that is due.
func anyWindow(r *rand.Rand, p *plan) int {
	if len(p.due) > 0 && r.Intn(6) > 0 {
		return p.due[r.Intn(len(p.due))].Window
	}
	return p.open - 3 + r.Intn(6)
}

// TestDaemonPlanned: long lives of daemons, with new ones in between, held against lists; P11 is asked behind every call.
func TestDaemonPlanned(t *testing.T) {
	r := rand.New(rand.NewSource(11))
	for range 150 {
		p := &plan{c: anyConfig(r), greatest: -1}
		d := disk.New()
		x := started(t, p.c, d)
		for range 200 {
			before, dues, most := used(t, d), len(p.due), 0
			var got, want api.Errno
			what := ""
			switch r.Intn(12) {
			case 0, 1, 2, 3, 4:
				s := anyDatagram(r)
				what, got, want, most = fmt.Sprintf("Packet(%q)", s), x.Packet(s), p.packet(s), len(s)+32
			case 5, 6, 7:
				n := anyTime(r, p)
				what, got = fmt.Sprintf("Clock(%d)", n), x.Clock(n)
				p.tick(n)
				most = 64 * (len(p.due) - dues)
			case 8, 9, 10:
				w := anyWindow(r, p)
				what, got, want, most = fmt.Sprintf("Ack(%d)", w), x.Ack(w), p.ack(w), 64
			case 11:
				what = "Start"
				if r.Intn(2) == 0 {
					what, most = "Sync", 64
					got = x.Sync()
					break
				}
				x = started(t, p.c, d)
				p.restart()
			}
			checkAnswer(t, what, got, want)
			checkOpen(t, p.c, x, p.open, p.datagrams...)
			checkDue(t, x, p.due...)
			if after := used(t, d); after > before+most || len(p.due) == 0 && len(p.datagrams) == 0 && after > 64 {
				t.Errorf("P11: %s: %d bytes, %d ahead of it", what, after, before)
			}
			if t.Failed() {
				t.Fatalf("%s with %+v", what, p.c)
			}
		}
	}
}
