package wire

import (
	"errors"
	"strconv"
)

// What may be wrong with a message or with bytes; readers ask for them with errors.Is.
var (
	ErrValue = errors.New("it can't be written")
	ErrShort = errors.New("the bytes end too early")
	ErrMagic = errors.New("the bytes begin wrongly")
	ErrMore  = errors.New("there are bytes behind the end")
	ErrSum   = errors.New("the sum is wrong")
	ErrForm  = errors.New("the content is none")
)

// PartError tells in which part of a message or record a fault was met, and
// how many bytes of it stand ahead of that part.
type PartError struct {
	Part   string
	Offset int
	Err    error
}

func (e *PartError) Error() string {
	return e.Part + ", at byte " + strconv.Itoa(e.Offset) + ": " + e.Err.Error()
}

func (e *PartError) Unwrap() error { return e.Err }

// LogError tells behind how many bytes of whole records a log can't be read on.
type LogError struct {
	Whole int
	Err   error
}

func (e *LogError) Error() string {
	return "record at byte " + strconv.Itoa(e.Whole) + ": " + e.Err.Error()
}

func (e *LogError) Unwrap() error { return e.Err }

func at(part string, offset int, fault error) error {
	return &PartError{Part: part, Offset: offset, Err: fault}
}
