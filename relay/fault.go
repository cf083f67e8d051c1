package relay

import (
	"errors"
	"strconv"

	"jalousie/api"
)

var errNoPiece = errors.New("it isn't a piece")

// diskFault is a fault of the disk, or of the store on it.
type diskFault struct {
	number api.Errno
}

func (f *diskFault) Error() string { return "the disk: " + strconv.Itoa(int(f.number)) }

// recordFault is a fault of a record.
type recordFault struct {
	at    int
	cause error
}

func (f *recordFault) Error() string {
	return "the record " + strconv.Itoa(f.at) + ": " + f.cause.Error()
}

func (f *recordFault) Unwrap() error { return f.cause }

// indexFault is what the index doesn't take.
type indexFault struct {
	number api.Errno
}

func (f *indexFault) Error() string { return "the index: " + strconv.Itoa(int(f.number)) }

// failure is a fault on its way up, with what was being done.
type failure struct {
	doing string
	fault error
}

func (f *failure) Error() string { return f.doing + ": " + f.fault.Error() }

func (f *failure) Unwrap() error { return f.fault }

// told is the number that is answered of an error. A record's fault comes first: it may wrap one of the index.
func told(err error) api.Errno {
	var ofDisk *diskFault
	var ofRecord *recordFault
	var ofIndex *indexFault
	switch {
	case err == nil:
		return api.OK
	case errors.As(err, &ofRecord):
		return api.ErrForm
	case errors.As(err, &ofDisk):
		return ofDisk.number
	case errors.As(err, &ofIndex):
		return ofIndex.number
	}
	return api.ErrForm
}
