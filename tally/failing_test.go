package tally_test

import (
	"fmt"
	"math/rand"
	"slices"
	"strings"
	"testing"

	"tally/api"
	"tally/disk"
	"tally/tally"
)

// TestTooLittleRoom: what could not be sealed stays open, and is tried again by a Packet, or by a Clock that is above the clock.
func TestTooLittleRoom(t *testing.T) {
	for _, again := range []string{"Packet", "Clock"} {
		c := ordinary()
		d := disk.New()
		x := started(t, c, d)
		checkOK(t, x.Packet("x:1|c"))
		d.Limit(-1, used(t, d))
		checkAnswer(t, "P9: a datagram", x.Packet("x:2|c"), api.ErrFull)
		checkOK(t, x.Clock(9))
		checkAnswer(t, "P9: a sealing", x.Clock(25), api.ErrFull)
		checkAnswer(t, "P9: a sealing, again", x.Packet("x:3|c"), api.ErrFull)
		checkAnswer(t, "P9: a sealing, again", x.Clock(26), api.ErrFull)
		checkAnswer(t, "P7: too long", x.Packet(strings.Repeat("x", 257)), api.ErrLong)
		d.Limit(-1, -1)
		checkOK(t, x.Clock(26), x.Clock(5), x.Clock(-1), x.Clock(api.MaxTime+1), x.Sync())
		checkAnswer(t, "P7: too long", x.Packet(strings.Repeat("x", 257)), api.ErrLong)
		checkOpen(t, c, x, 0, "x:1|c")
		checkDue(t, x)
		if again == "Packet" {
			checkOK(t, x.Packet("x:4|c"))
			checkOpen(t, c, x, 2, "x:4|c")
		} else {
			checkOK(t, x.Clock(30))
			checkOpen(t, c, x, 3)
			d.Limit(-1, 0)
			checkOK(t, x.Clock(300), x.Sync())
			checkOpen(t, c, x, 30)
		}
		checkDue(t, x, message(c, 0, "x:1|c"))
	}
}

// life is a disk that fails, the daemon on it, and what the document says of the two.
type life struct {
	t      *testing.T
	r      *rand.Rand
	d      *disk.Disk
	x      *tally.Daemon
	plan             // what the daemon holds
	synced int       // how many of the open window's datagrams are sure to last
	may    []outcome // what a new daemon may find beside that, since a call failed
	texts  map[int]string
	log    []string
}

// outcome is what a daemon holds.
type outcome struct {
	due       []api.Message
	open      int
	datagrams []string
	greatest  int
}

func (l *life) fail(format string, values ...any) {
	l.t.Helper()
	l.t.Fatalf("%s\nwith %+v behind\n%s", fmt.Sprintf(format, values...), l.c, strings.Join(l.log, "\n"))
}

// holds tells whether the daemon holds just this.
func (l *life) holds(o outcome) bool {
	n, k, text := l.x.Open()
	return n == o.open && k == len(o.datagrams) && text == summed(l.c, n, o.datagrams...) && slices.Equal(l.x.Due(), o.due)
}

// held is what the daemon holds by the plan.
func (l *life) held() outcome {
	return outcome{slices.Clone(l.due), l.open, slices.Clone(l.datagrams), l.greatest}
}

// adopt goes on with what was found.
func (l *life) adopt(o outcome) {
	l.due, l.open, l.datagrams, l.greatest = o.due, o.open, o.datagrams, o.greatest
	for _, m := range l.due {
		if text, ok := l.texts[m.Window]; ok && text != m.Text {
			l.fail("P10: window %d is told as %q, was told as %q", m.Window, m.Text, text)
		}
		l.texts[m.Window] = m.Text
	}
}

// mustSeal tells whether the open window must be sealed.
func (l *life) mustSeal() bool { return len(l.datagrams) > 0 && l.clock/l.c.Width > l.open }

// sealedWith is the outcome of sealing the open window with so many datagrams.
func (l *life) sealedWith(n int) outcome {
	o := l.held()
	o.due = append(o.due, message(l.c, l.open, l.datagrams[:n]...))
	o.open, o.datagrams, o.greatest = l.clock/l.c.Width, nil, l.open
	return o
}

// call makes a call of one of the four kinds: its name, its answer, and what the daemon holds if it is done.
func (l *life) call() (name string, answer api.Errno, done outcome) {
	switch l.r.Intn(8) {
	case 0, 1, 2:
		s := strings.Repeat("x:1|c\n", 1+l.r.Intn(40))[:1+l.r.Intn(5)]
		s += strings.Repeat("y", l.r.Intn(2)*l.r.Intn(200))
		done = l.held()
		if l.mustSeal() {
			done = l.sealedWith(len(l.datagrams))
		}
		done.datagrams = append(done.datagrams, s)
		return "Packet", l.x.Packet(s), done
	case 3, 4:
		l.clock += 1 + l.r.Intn(2*l.c.Width)
		answer = l.x.Clock(l.clock)
		done = l.held()
		if l.mustSeal() {
			done = l.sealedWith(len(l.datagrams))
		} else {
			done.open = max(l.open, l.clock/l.c.Width)
		}
		return "Clock", answer, done
	case 5:
		return "Sync", l.x.Sync(), l.held()
	}
	if len(l.due) == 0 {
		return "Sync", l.x.Sync(), l.held()
	}
	done = l.held()
	at := l.r.Intn(len(l.due))
	done.due = slices.Delete(done.due, at, at+1)
	return "Ack", l.x.Ack(l.due[at].Window), done
}

// step makes a call, and holds the answer against P7 to P9; false: the daemon is spent.
func (l *life) step() bool {
	name, answer, done := l.call()
	l.log = append(l.log, fmt.Sprintf("%s: %d, clock %d, open %d with %d, %d due", name, answer, l.clock, l.open, len(l.datagrams), len(l.due)))
	switch answer {
	case api.OK:
		l.done(name, done)
	case api.ErrFull:
		l.full(name)
	case api.ErrDisk:
		l.failed(name, done)
		for _, e := range []api.Errno{l.x.Packet(""), l.x.Packet(strings.Repeat("x", 300)), l.x.Clock(l.clock + 1000), l.x.Sync(), l.x.Ack(0), l.x.Ack(-1)} {
			if e != api.ErrSpent {
				l.fail("P9: a daemon that is spent answers %d", e)
			}
		}
		return false
	default:
		l.fail("P9: %s answers %d", name, answer)
	}
	return true
}

// done: the call was done.
func (l *life) done(name string, o outcome) {
	if !l.holds(o) {
		l.fail("P7, P8: behind %s the daemon does not hold %+v", name, o)
	}
	if l.open != o.open {
		l.synced = 0
	}
	l.adopt(o)
	if name == "Sync" {
		l.synced = len(l.datagrams)
	}
	l.small()
}

// used is how many bytes the disk has; 0, if it is down and cannot be asked.
func (l *life) used() int {
	if _, e := l.d.List(); e != api.OK {
		return 0
	}
	return used(l.t, l.d)
}

// small: P11, where it says how much is left.
func (l *life) small() {
	if n := l.used(); n > 64 && len(l.due) == 0 && len(l.datagrams) == 0 {
		l.fail("P11: %d bytes are left", n)
	}
}

// full: there was too little room; a window may have been sealed all the same, by a Packet.
func (l *life) full(name string) {
	sealing := l.mustSeal()
	if name == "Sync" || name == "Clock" && !sealing {
		l.fail("P9: %s answers ErrFull", name)
	}
	switch {
	case l.holds(l.held()):
	case name == "Packet" && sealing && l.holds(l.sealedWith(len(l.datagrams))):
		l.synced = 0
		l.adopt(l.sealedWith(len(l.datagrams)))
	default:
		l.fail("P9: something is changed behind ErrFull")
	}
}

// failed: the disk was down; the call may be done or not done.
func (l *life) failed(name string, done outcome) {
	switch {
	case name == "Sync":
	case l.mustSeal() && name != "Ack":
		for n := max(l.synced, 1); n <= len(l.datagrams); n++ {
			o := l.sealedWith(n)
			o.open = o.greatest + 1
			l.may = append(l.may, o)
		}
		l.may = append(l.may, done)
	case name == "Packet":
		l.may = append(l.may, done)
	case name == "Ack":
		l.may = append(l.may, l.lost(done)...)
	}
}

// lost are the outcomes that have a beginning of the open window's datagrams alone.
func (l *life) lost(o outcome) []outcome {
	var outcomes []outcome
	for n := l.synced; n <= len(o.datagrams); n++ {
		b := o
		b.datagrams = o.datagrams[:n]
		if n == 0 {
			b.open = o.greatest + 1
		}
		outcomes = append(outcomes, b)
	}
	return outcomes
}

// limit lets the disk fail some time.
func (l *life) limit() {
	left, room := -1, -1
	if l.r.Intn(2) == 0 {
		left = l.r.Intn(12)
	}
	if l.r.Intn(2) == 0 {
		room = l.used() + l.r.Intn(100)
	}
	l.d.Limit(left, room)
	l.log = append(l.log, fmt.Sprintf("Limit %d %d", left, room))
}

// restart: the power may fail, and a new daemon finds what P10 says, maybe not at once.
func (l *life) restart() {
	for {
		if l.r.Intn(3) > 0 {
			torn := l.r.Intn(2) * l.r.Intn(300)
			l.d.Crash(torn)
			l.log = append(l.log, fmt.Sprintf("Crash %d", torn))
		} else {
			l.d.Limit(-1, -1)
		}
		if l.r.Intn(3) == 0 {
			l.d.Limit(l.r.Intn(6), l.used())
		}
		x, e := tally.Start(l.c, l.d)
		l.log = append(l.log, fmt.Sprintf("Start: %d", e))
		if e == api.OK {
			l.x = x
			break
		}
		if x != nil || e != api.ErrDisk {
			l.fail("P6: Start = %v, %d", x, e)
		}
	}
	may := append(l.lost(l.held()), l.may...)
	at := slices.IndexFunc(may, l.holds)
	if at < 0 {
		n, k, text := l.x.Open()
		l.fail("P10: found %d, %d, %q and %+v, may be one of %+v", n, k, text, l.x.Due(), may)
	}
	l.adopt(may[at])
	l.clock, l.synced, l.may = 0, len(l.datagrams), nil
	l.small()
}

// TestFailingDisk: long lives of disks that fail at any moment, held against P9, P10 and P11.
func TestFailingDisk(t *testing.T) {
	r := rand.New(rand.NewSource(13))
	for range 400 {
		c := ordinary()
		c.Width, c.Segment = 1+r.Intn(10), 64+r.Intn(2)*r.Intn(500)
		l := &life{t: t, r: r, d: disk.New(), plan: plan{c: c, greatest: -1}, texts: map[int]string{}}
		l.x = started(t, c, l.d)
		for range 30 {
			for range r.Intn(20) {
				if r.Intn(4) == 0 {
					l.limit()
				}
				if !l.step() {
					break
				}
			}
			l.restart()
		}
	}
}
