package tally_test

import (
	"fmt"
	"maps"
	"math/rand"
	"slices"
	"strings"
	"testing"

	"tally/api"
	"tally/disk"
	"tally/tally"
)

// TestTooLittleRoom: what could not be sealed stays open, and is tried again by a Packet, or by a Clock that is above the clock.
func TestTooLittleRoom(t *testing.T) {
	for _, again := range []string{"Packet", "Clock"} {
		c := ordinary()
		d := disk.New()
		x := started(t, c, d)
		checkOK(t, x.Packet("x:1|c"))
		d.Limit(-1, used(t, d))
		checkAnswer(t, "P9: a datagram", x.Packet("x:2|c"), api.ErrFull)
		checkOK(t, x.Clock(9))
		checkAnswer(t, "P9: a sealing", x.Clock(25), api.ErrFull)
		checkAnswer(t, "P9: a sealing, again", x.Packet("x:3|c"), api.ErrFull)
		checkAnswer(t, "P9: a sealing, again", x.Clock(26), api.ErrFull)
		checkAnswer(t, "P7: too long", x.Packet(strings.Repeat("x", 257)), api.ErrLong)
		d.Limit(-1, -1)
		checkOK(t, x.Clock(26), x.Clock(5), x.Clock(-1), x.Clock(api.MaxTime+1), x.Sync())
		checkAnswer(t, "P7: too long", x.Packet(strings.Repeat("x", 257)), api.ErrLong)
		checkOpen(t, c, x, 0, "x:1|c")
		checkDue(t, x)
		if again == "Packet" {
			checkOK(t, x.Packet("x:4|c"))
			checkOpen(t, c, x, 2, "x:4|c")
		} else {
			checkOK(t, x.Clock(30))
			checkOpen(t, c, x, 3)
			d.Limit(-1, 0)
			checkOK(t, x.Clock(300), x.Sync())
			checkOpen(t, c, x, 30)
		}
		checkDue(t, x, message(c, 0, "x:1|c"))
	}
}

// life is a disk that fails, the daemon on it, and what the document says of the two.
type life struct {
	t       *testing.T
	r       *rand.Rand
	d       *disk.Disk
	x       *tally.Daemon
	plan              // what the daemon holds
	synced  int       // how many of the open window's datagrams are sure to last
	may     []outcome // what a new daemon may find beside that, since a call failed
	texts   map[int]string
	shaken  bool // the power has failed under the daemon
	packets int  // how many there were
	log     []string
}

// outcome is what a daemon holds.
type outcome struct {
	due       []api.Message
	open      int
	datagrams []string
	greatest  int
}

func (l *life) fail(format string, values ...any) {
	l.t.Helper()
	l.t.Fatalf("%s\nwith %+v behind\n%s", fmt.Sprintf(format, values...), l.c, strings.Join(l.log, "\n"))
}

// holds tells whether the daemon holds just this.
func (l *life) holds(o outcome) bool {
	n, k, text := l.x.Open()
	return n == o.open && k == len(o.datagrams) && text == summed(l.c, n, o.datagrams...) && slices.Equal(l.x.Due(), o.due)
}

// held is what the daemon holds by the plan.
func (l *life) held() outcome {
	return outcome{slices.Clone(l.due), l.open, slices.Clone(l.datagrams), l.greatest}
}

// adopt goes on with what was found.
func (l *life) adopt(o outcome) {
	l.due, l.open, l.datagrams, l.greatest = o.due, o.open, o.datagrams, o.greatest
	for _, m := range l.due {
		if text, ok := l.texts[m.Window]; ok && text != m.Text {
			l.fail("P10: window %d is told as %q, was told as %q", m.Window, m.Text, text)
		}
		l.texts[m.Window] = m.Text
	}
}

// mustSeal tells whether the open window must be sealed.
func (l *life) mustSeal() bool { return len(l.datagrams) > 0 && l.clock/l.c.Width > l.open }

// sealedWith is the outcome of sealing the open window with so many datagrams.
func (l *life) sealedWith(n int) outcome {
	o := l.held()
	o.due = append(o.due, message(l.c, l.open, l.datagrams[:n]...))
	o.open, o.datagrams, o.greatest = l.clock/l.c.Width, nil, l.open
	return o
}

// anyCall is one of the four calls.
func (l *life) anyCall() string {
	return []string{"Packet", "Packet", "Packet", "Clock", "Clock", "Sync", "Ack", "Ack"}[l.r.Intn(8)]
}

// anyPacket is a datagram like no other, now and then a long one.
func (l *life) anyPacket() string {
	l.packets++
	return fmt.Sprintf("x:%d|c\n", l.packets) + strings.Repeat("y", l.r.Intn(2)*l.r.Intn(200))
}

// call makes a call: its answer, what the daemon holds if it is done, and how many bytes it may take.
func (l *life) call(name string) (answer api.Errno, done outcome, most int) {
	done = l.held()
	switch {
	case name == "Packet":
		s := l.anyPacket()
		most = len(s) + 32
		if l.mustSeal() {
			done = l.sealedWith(len(l.datagrams))
			most += 64
		}
		done.datagrams = append(done.datagrams, s)
		return l.x.Packet(s), done, most
	case name == "Clock":
		l.clock += 1 + l.r.Intn(2*l.c.Width)
		if l.mustSeal() {
			done = l.sealedWith(len(l.datagrams))
			most = 64
		} else {
			done.open = max(l.open, l.clock/l.c.Width)
		}
		return l.x.Clock(l.clock), done, most
	case name == "Ack" && len(l.due) > 0:
		at := l.r.Intn(len(l.due))
		done.due = slices.Delete(done.due, at, at+1)
		return l.x.Ack(l.due[at].Window), done, 64
	case name == "Ack":
		return l.nothingToAck(), done, 0
	}
	return l.x.Sync(), done, 64
}

// nothingToAck: an Ack of what is not due is no failure, whatever the disk can do.
func (l *life) nothingToAck() api.Errno {
	if e := l.x.Ack(l.open); e != api.ErrWindow {
		l.fail("P8: Ack of a window that is not due: %d", e)
	}
	return api.OK
}

// step makes a call, and holds its answer against P7 to P9.
func (l *life) step(name string) api.Errno {
	before, up := l.used()
	answer, done, most := l.call(name)
	l.log = append(l.log, fmt.Sprintf("%s: %d, clock %d, open %d with %d, %d due", name, answer, l.clock, l.open, len(l.datagrams), len(l.due)))
	switch answer {
	case api.OK:
		l.done(name, done)
	case api.ErrFull:
		l.full(name)
	case api.ErrDisk:
		l.failed(name, done)
		l.spent()
	default:
		l.fail("P9: %s answers %d", name, answer)
	}
	// What the power took under a daemon is written again, beside what the call takes.
	if after, _ := l.used(); up && !l.shaken && after > before+most {
		l.fail("P11: %s takes %d bytes, may take %d", name, after-before, most)
	}
	return answer
}

// spent: the daemon does nothing any more, also where the disk is up again.
func (l *life) spent() {
	l.d.Limit(-1, -1)
	before, open, due := contents(l.t, l.d), fmt.Sprint(l.x.Open()), l.x.Due()
	for _, e := range []api.Errno{l.x.Packet(""), l.x.Packet(strings.Repeat("x", 300)), l.x.Clock(l.clock + 1000), l.x.Clock(-1), l.x.Sync(), l.x.Ack(0), l.x.Ack(-1)} {
		if e != api.ErrSpent {
			l.fail("P9: a daemon that is spent answers %d", e)
		}
	}
	if !maps.Equal(before, contents(l.t, l.d)) || open != fmt.Sprint(l.x.Open()) || !slices.Equal(due, l.x.Due()) {
		l.fail("P9: a daemon that is spent does something")
	}
}

// done: the call was done.
func (l *life) done(name string, o outcome) {
	if !l.holds(o) {
		l.fail("P7, P8: behind %s the daemon does not hold %+v", name, o)
	}
	if l.open != o.open {
		l.synced = 0
	}
	l.adopt(o)
	if name == "Sync" {
		l.synced = len(l.datagrams)
	}
	l.small()
}

// used is how many bytes the disk has; false: it is down, and cannot be asked.
func (l *life) used() (int, bool) {
	if _, e := l.d.List(); e != api.OK {
		return 0, false
	}
	return used(l.t, l.d), true
}

// small: P11, where it says how much is left.
func (l *life) small() {
	if n, _ := l.used(); n > 64 && len(l.due) == 0 && len(l.datagrams) == 0 {
		l.fail("P11: %d bytes are left", n)
	}
}

// full: there was too little room; a window may have been sealed all the same, by a Packet.
func (l *life) full(name string) {
	sealing := l.mustSeal()
	if name == "Sync" || name == "Clock" && !sealing || name == "Ack" && len(l.due) == 0 {
		l.fail("P9: %s answers ErrFull", name)
	}
	switch {
	case l.holds(l.held()):
	case name == "Packet" && sealing && l.holds(l.sealedWith(len(l.datagrams))):
		l.synced = 0
		l.adopt(l.sealedWith(len(l.datagrams)))
	default:
		l.fail("P9: something is changed behind ErrFull")
	}
}

// failed: the disk was down; the call may be done or not done.
func (l *life) failed(name string, done outcome) {
	switch {
	case name == "Sync":
	case l.mustSeal() && name != "Ack":
		for n := max(l.synced, 1); n <= len(l.datagrams); n++ {
			o := l.sealedWith(n)
			o.open = o.greatest + 1
			l.may = append(l.may, o)
		}
		l.may = append(l.may, done)
	case name == "Packet":
		l.may = append(l.may, done)
	case name == "Ack":
		l.may = append(l.may, l.lost(done)...)
	}
}

// lost are the outcomes that have a beginning of the open window's datagrams alone.
func (l *life) lost(o outcome) []outcome {
	var outcomes []outcome
	for n := l.synced; n <= len(o.datagrams); n++ {
		b := o
		b.datagrams = o.datagrams[:n]
		if n == 0 {
			b.open = o.greatest + 1
		}
		outcomes = append(outcomes, b)
	}
	return outcomes
}

// limit lets the disk fail some time.
func (l *life) limit() {
	left, room := -1, -1
	if l.r.Intn(2) == 0 {
		left = l.r.Intn(12)
	}
	if l.r.Intn(2) == 0 {
		room, _ = l.used()
		room += l.r.Intn(100)
	}
	l.d.Limit(left, room)
	l.log = append(l.log, fmt.Sprintf("Limit %d %d", left, room))
}

// crash: the power fails, and is back.
func (l *life) crash(torn int) {
	l.d.Crash(torn)
	l.log = append(l.log, fmt.Sprintf("Crash %d", torn))
}

// start makes a new daemon, which finds what P10 says; false: the disk is down.
func (l *life) start() bool {
	x, e := tally.Start(l.c, l.d)
	l.log = append(l.log, fmt.Sprintf("Start: %d", e))
	if e == api.ErrDisk && x == nil {
		return false
	}
	if e != api.OK || x == nil {
		l.fail("P6: Start = %v, %d", x, e)
	}
	l.x = x
	may := append(l.lost(l.held()), l.may...)
	at := slices.IndexFunc(may, l.holds)
	if at < 0 {
		n, k, text := l.x.Open()
		l.fail("P10: found %d, %d, %q and %+v, may be one of %+v", n, k, text, l.x.Due(), may)
	}
	l.adopt(may[at])
	l.clock, l.synced, l.may, l.shaken = 0, len(l.datagrams), nil, false
	l.small()
	return true
}

// restart: the power may fail, and a new daemon starts, maybe not at once.
func (l *life) restart() {
	for started := false; !started; started = l.start() {
		if l.r.Intn(3) > 0 {
			l.crash(l.r.Intn(2) * l.r.Intn(300))
		} else {
			l.d.Limit(-1, -1)
		}
		if l.r.Intn(3) == 0 {
			room, _ := l.used()
			l.d.Limit(l.r.Intn(6), room)
		}
	}
}

// trouble: the disk fails some time, or the power fails under the daemon.
func (l *life) trouble() {
	if l.r.Intn(3) > 0 {
		l.limit()
		return
	}
	l.crash(l.r.Intn(2) * l.r.Intn(60))
	l.shaken = true
}

// newLife begins with a new disk.
func newLife(t *testing.T, seed int64, c api.Config) *life {
	l := &life{t: t, r: rand.New(rand.NewSource(seed)), d: disk.New(), plan: plan{c: c, greatest: -1}, texts: map[int]string{}}
	l.x = started(t, c, l.d)
	return l
}

// TestFailingDisk: long lives of disks that fail at any moment, held against P9, P10 and P11.
func TestFailingDisk(t *testing.T) {
	for seed := range 400 {
		c := ordinary()
		l := newLife(t, int64(seed), c)
		l.c.Width, l.c.Segment = 1+l.r.Intn(10), 64+l.r.Intn(2)*l.r.Intn(500)
		l.x = started(t, l.c, l.d)
		for range 30 {
			for range l.r.Intn(20) {
				if l.r.Intn(4) == 0 {
					l.trouble()
				}
				if l.step(l.anyCall()) == api.ErrDisk {
					break
				}
			}
			l.restart()
		}
	}
}

// calls has all that a daemon does: windows of one and of several segments, sealed by a Clock and by a Packet, acked in this and that order.
func calls() []string {
	return []string{"Packet", "Packet", "Sync", "Packet", "Clock", "Clock", "Packet", "Ack", "Packet", "Packet", "Packet", "Packet", "Clock", "Clock", "Packet", "Sync", "Clock", "Clock", "Clock", "Ack", "Ack", "Packet", "Ack", "Sync", "Packet"}
}

// smallest is a configuration with which the calls come to many segments.
func smallest() api.Config {
	c := ordinary()
	c.Width, c.Segment = 4, 64
	return c
}

// live makes the calls, up to the one that finds the disk down; false: there is such a one.
func (l *life) live() bool {
	for _, name := range calls() {
		if l.step(name) == api.ErrDisk {
			return false
		}
	}
	return true
}

// fails begins a life on a disk with so many operations; false: the calls need more of them. Below 0 nothing is torn behind that.
func fails(t *testing.T, seed int64, left, torn int) (*life, bool) {
	l := newLife(t, seed, smallest())
	l.d.Limit(left, -1)
	lasted := l.live()
	if torn < 0 {
		l.d.Limit(-1, -1)
	} else {
		l.crash(torn)
	}
	return l, lasted
}

// TestDownAtEachOperation: the disk is down at each operation of the calls, with each piece torn, and at each operation of the Start behind that.
func TestDownAtEachOperation(t *testing.T) {
	for seed := range int64(4) {
		lasted := false
		for left := 0; !lasted; left++ {
			for torn := -1; torn < 40; torn++ {
				found := false
				for again := 0; !found; again++ {
					var l *life
					l, lasted = fails(t, seed, left, torn)
					l.d.Limit(again, -1)
					found = l.start()
					l.crash(torn / 2)
					if !l.start() {
						l.fail("P6: the disk is up, and Start answers ErrDisk")
					}
				}
			}
		}
	}
}

// TestFullAtEachByte: the disk is full at each byte; all is done when there is room again.
func TestFullAtEachByte(t *testing.T) {
	for seed := range int64(4) {
		for room := range 500 {
			l := newLife(t, seed, smallest())
			l.d.Limit(-1, room)
			if !l.live() {
				l.fail("P9: a disk that is full is not down")
			}
			switch room % 3 {
			case 0:
				l.crash(room % 50)
				fallthrough
			case 1:
				l.start()
			}
			l.d.Limit(-1, -1)
			for _, name := range calls() {
				if e := l.step(name); e != api.OK {
					l.fail("P9: there is room again: %s answers %d", name, e)
				}
			}
		}
	}
}

// TestDown: each of the four finds a disk that is down, and is the last one that the daemon does.
func TestDown(t *testing.T) {
	for _, synced := range []bool{false, true} {
		for _, name := range []string{"Packet", "Clock", "Sync", "Ack", "Packet that seals"} {
			l := newLife(t, 1, smallest())
			for _, name := range []string{"Packet", "Clock", "Clock", "Clock", "Clock", "Packet"} {
				checkOK(t, l.step(name))
			}
			if synced {
				checkOK(t, l.step("Sync"))
			}
			if name == "Packet that seals" {
				room, _ := l.used()
				l.d.Limit(-1, room)
				l.clock += 4
				checkAnswer(t, "P9: a sealing", l.x.Clock(l.clock), api.ErrFull)
			}
			if name == "Clock" {
				l.clock += 4
			}
			l.d.Limit(0, -1)
			checkAnswer(t, "P9: down: "+name, l.step(strings.Fields(name)[0]), api.ErrDisk)
			l.start()
		}
	}
}

// TestNothingIsAsked: calls that have nothing to do are done by a disk that is down.
func TestNothingIsAsked(t *testing.T) {
	c := ordinary()
	d := disk.New()
	x := started(t, c, d)
	checkOK(t, x.Clock(10))
	d.Limit(0, 0)
	checkAnswer(t, "P7: too long", x.Packet(strings.Repeat("x", 257)), api.ErrLong)
	checkAnswer(t, "P8: not due", x.Ack(0), api.ErrWindow)
	checkOK(t, x.Clock(10), x.Clock(9), x.Clock(-1), x.Clock(api.MaxTime+1))
	checkOpen(t, c, x, 1)
	checkDue(t, x)
	checkAnswer(t, "P9: down", x.Packet(""), api.ErrDisk)
	checkAnswer(t, "P9: spent", x.Packet(strings.Repeat("x", 257)), api.ErrSpent)
	checkAnswer(t, "P9: spent", x.Ack(0), api.ErrSpent)
	checkAnswer(t, "P9: spent", x.Clock(9), api.ErrSpent)
}

// TestPowerFailsUnderTheDaemon: a daemon that goes on where the power is back has lost nothing that it took.
func TestPowerFailsUnderTheDaemon(t *testing.T) {
	c := ordinary()
	c.Segment = 64
	for taken := 1; taken < 12; taken++ {
		for torn := -1; torn < 80; torn++ {
			d := disk.New()
			x := started(t, c, d)
			var datagrams []string
			for i := range taken {
				s := fmt.Sprintf("x:%d|c", i)
				checkOK(t, x.Packet(s))
				datagrams = append(datagrams, s)
			}
			d.Crash(torn)
			checkOK(t, x.Packet("y:1|c"), x.Sync())
			d.Crash(0)
			datagrams = append(datagrams, "y:1|c")
			checkOpen(t, c, x, 0, datagrams...)
			checkOpen(t, c, started(t, c, d), 0, datagrams...)
			x = started(t, c, d)
			checkOK(t, x.Packet("z:1|c"))
			d.Crash(torn)
			checkOK(t, x.Clock(10))
			d.Crash(0)
			zero := message(c, 0, append(datagrams, "z:1|c")...)
			checkDue(t, x, zero)
			checkDue(t, started(t, c, d), zero)
		}
	}
}

// TestNoRoomForWhatThePowerTook: no call says that something lasts which does not.
func TestNoRoomForWhatThePowerTook(t *testing.T) {
	c := ordinary()
	// Of the last record, which has 11 bytes, 6 are missing.
	for room := range 12 {
		for _, name := range []string{"Packet", "Clock", "Sync"} {
			d := disk.New()
			x := started(t, c, d)
			checkOK(t, x.Packet("x:1|c"), x.Sync(), x.Packet("x:2|c"))
			d.Crash(5)
			d.Limit(-1, used(t, d)+room)
			switch {
			case name == "Packet":
				checkAnswer(t, "P9: "+name, x.Packet(""), api.ErrFull)
			case name == "Clock":
				checkAnswer(t, "P9: "+name, x.Clock(10), api.ErrFull)
			case room >= 6:
				checkOK(t, x.Sync())
				d.Crash(0)
			default:
				checkAnswer(t, "P9: "+name, x.Sync(), api.ErrDisk)
				checkAnswer(t, "P9: spent", x.Sync(), api.ErrSpent)
				checkOpen(t, c, started(t, c, d), 0, "x:1|c")
				continue
			}
			checkOpen(t, c, x, 0, "x:1|c", "x:2|c")
			d.Limit(-1, -1)
			checkOK(t, x.Clock(20))
			d.Crash(0)
			checkDue(t, started(t, c, d), message(c, 0, "x:1|c", "x:2|c"))
		}
	}
}
