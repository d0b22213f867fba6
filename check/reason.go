package check

import (
	"strconv"

	"gauge/api"
)

// reason is what a fault wraps: it tells the fault in words, and wraps the error that all faults have in common.
type reason struct {
	text string
	bad  error
}

func (r *reason) Error() string { return r.bad.Error() + ": " + r.text }

func (r *reason) Unwrap() error { return r.bad }

func newFault(code api.Errno, at int, bad error) error {
	text := describe(code)
	if code != api.ErrSize { // bytes that are no instructions have no places
		text += " at instruction " + strconv.Itoa(at)
	}
	return &api.Fault{At: at, Code: code, Err: &reason{text: text, bad: bad}}
}

func describe(code api.Errno) string {
	switch code {
	case api.ErrSize:
		return "bytes that are no row of instructions"
	case api.ErrCode:
		return "a code of no instruction"
	case api.ErrZero:
		return "a divisor 0"
	case api.ErrShift:
		return "a shift that is too far"
	case api.ErrCell:
		return "a cell that there is not"
	case api.ErrJump:
		return "a jump behind the end"
	case api.ErrEnd:
		return "an end that is no return"
	}
	return "a cell that may be read ahead of being written"
}
