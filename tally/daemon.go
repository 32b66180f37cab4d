package tally

import (
	"errors"

	"tally/api"
	"tally/disk"
	"tally/journal"
	"tally/window"
)

// Daemon takes datagrams, and tells windows.
type Daemon struct {
	config  api.Config
	journal *journal.Journal
	clock   int
	open    openWindow
	due     map[int]api.Message // by windows
	spent   bool                // the disk has failed
}

// openWindow is the window that takes datagrams.
type openWindow struct {
	number int
	count  int            // of its datagrams
	sums   *window.Window // what they come to, in place of them
}

// Start makes a daemon, which goes on with what is on the disk (P6, P10).
func Start(c api.Config, d *disk.Disk) (*Daemon, api.Errno) {
	if e := Check(c); e != api.OK {
		return nil, e
	}
	j, found, err := journal.Open(d, c.Segment)
	if err != nil {
		return nil, api.ErrDisk
	}
	x := &Daemon{config: c, journal: j, due: map[int]api.Message{}}
	for _, w := range found.Sealed {
		x.due[w.Number] = api.Message{Window: w.Number, Text: summed(c, w.Datagrams).Text(w.Number)}
	}
	x.open = openWindow{found.Open.Number, len(found.Open.Datagrams), summed(c, found.Open.Datagrams)}
	return x, api.OK
}

// Packet takes a datagram (P7).
func (x *Daemon) Packet(s string) api.Errno {
	if x.spent {
		return api.ErrSpent
	}
	if len(s) > api.MaxDatagram {
		return api.ErrLong
	}
	if err := x.turn(); err != nil {
		return x.answer(err)
	}
	if err := x.journal.Write(x.open.number, s); err != nil {
		return x.answer(err)
	}
	x.open.sums.Take(s)
	x.open.count++
	return api.OK
}

// Clock tells the time (P8).
func (x *Daemon) Clock(t int) api.Errno {
	if x.spent {
		return api.ErrSpent
	}
	if t <= x.clock || t > api.MaxTime {
		return api.OK
	}
	x.clock = t
	return x.answer(x.turn())
}

// turn opens the clock's window in place of one that is over, which is sealed if it has datagrams.
func (x *Daemon) turn() error {
	now := x.clock / x.config.Width
	if now <= x.open.number {
		return nil
	}
	if x.open.count > 0 {
		if err := x.journal.Seal(x.open.number); err != nil {
			return err
		}
		x.due[x.open.number] = api.Message{Window: x.open.number, Text: x.open.text()}
	}
	x.open = openWindow{number: now, sums: window.New(x.config)}
	return nil
}

// Sync makes sure of what was taken (P7).
func (x *Daemon) Sync() api.Errno {
	if x.spent {
		return api.ErrSpent
	}
	if err := x.journal.Sync(); err != nil {
		// Too little room is no answer to a Sync: what the power took, and cannot be written again, is lost.
		return x.spend()
	}
	return api.OK
}

// Open tells the open window (P7).
func (x *Daemon) Open() (int, int, string) {
	return x.open.number, x.open.count, x.open.text()
}

// text is the window's text so far.
func (w openWindow) text() string { return w.sums.Text(w.number) }

// Due tells the windows that are due (P8).
func (x *Daemon) Due() []api.Message { return rising(x.due) }

// Ack tells that a window's text has come (P8).
func (x *Daemon) Ack(window int) api.Errno {
	if x.spent {
		return api.ErrSpent
	}
	if _, ok := x.due[window]; !ok {
		return api.ErrWindow
	}
	if err := x.journal.Forget(window); err != nil {
		return x.answer(err)
	}
	delete(x.due, window)
	return api.OK
}

// answer is what a call answers that came to this error (P9).
func (x *Daemon) answer(err error) api.Errno {
	switch {
	case err == nil:
		return api.OK
	case errors.Is(err, api.ErrFull):
		return api.ErrFull
	}
	// Too little room leaves the disk as it was; behind any other error it is not known any more what it has.
	return x.spend()
}

// spend is the end of the daemon, and the answer of the call with which it comes.
func (x *Daemon) spend() api.Errno {
	x.spent = true
	return api.ErrDisk
}
