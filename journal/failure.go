package journal

import "tally/api"

// Failure is an error of the disk, with what was being done when it came.
type Failure struct {
	Doing string
	Cause error
}

// Error tells both.
func (f *Failure) Error() string { return f.Doing + ": " + f.Cause.Error() }

// Unwrap is the disk's own error.
func (f *Failure) Unwrap() error { return f.Cause }

// during is the failure of something that was being done; nil, if the disk has done it.
func during(doing string, e api.Errno) error {
	// OK is a number like the others: as an error it would not be nil.
	if e == api.OK {
		return nil
	}
	return &Failure{doing, e}
}
