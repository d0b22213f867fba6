// Package gauge: packet filters: see DOC.md.
package gauge

import (
	"errors"

	"gauge/api"
	"gauge/check"
	"gauge/compile"
	"gauge/insn"
	"gauge/run"
	"gauge/sockets"
	"gauge/stack"
)

// Bad is what each fault of a filter wraps (P4).
var Bad = errors.New("a bad filter")

// Decode reads instructions (P3).
func Decode(filter []byte) ([]api.Insn, api.Errno) { return insn.Decode(filter) }

// Encode writes instructions (P3).
func Encode(l []api.Insn) []byte { return insn.Encode(l) }

// Check tells the fault of a filter, and its place (P4).
func Check(filter []byte) (api.Errno, int) {
	var fault *api.Fault
	if errors.As(Verify(filter), &fault) {
		return fault.Code, fault.At
	}
	return api.OK, 0
}

// Verify tells the same as an error (P4).
func Verify(filter []byte) error { return check.Filter(filter, Bad) }

// Run tells a filter's verdict of a packet (P5).
func Run(filter []byte, packet []byte) (int, api.Errno) {
	list, code := checked(filter)
	if code != api.OK {
		return 0, code
	}
	if len(packet) > api.MaxPacket {
		return 0, api.ErrArg
	}
	return int(run.Filter(list, packet)), api.OK
}

// checked tells the instructions of a filter that passes Check, else the error.
func checked(filter []byte) ([]api.Insn, api.Errno) {
	if code, _ := Check(filter); code != api.OK {
		return nil, code
	}
	return insn.Decode(filter)
}

// Exec runs code of the stack machine (P6).
func Exec(code []byte, packet []byte) (int, int, api.Errno) {
	if len(packet) > api.MaxPacket {
		return 0, 0, api.ErrArg
	}
	result, steps, ok := stack.Exec(code, packet)
	if !ok {
		return 0, steps, api.ErrFault
	}
	return int(result), steps, api.OK
}

// Compile makes code of a filter (P7).
func Compile(filter []byte) ([]byte, api.Errno) {
	list, code := checked(filter)
	if code != api.OK {
		return nil, code
	}
	return compile.Filter(list), api.OK
}

// Net is some sockets.
type Net struct{ row sockets.Row }

// New makes sockets without filters (P8).
func New() *Net { return &Net{} }

// Attach gives a socket a filter (P8).
func (n *Net) Attach(socket int, filter []byte, compiled bool) api.Errno {
	s, err := n.row.Find(socket)
	if err != nil {
		return errnoOf(err)
	}
	list, code := checked(filter)
	if code != api.OK {
		return code
	}
	s.Attach(list, compiled)
	return api.OK
}

// Detach takes a socket's filter away (P8).
func (n *Net) Detach(socket int) api.Errno {
	s, err := n.row.Find(socket)
	if err != nil {
		return errnoOf(err)
	}
	return errnoOf(s.Detach())
}

// Frame: a packet comes in (P8).
func (n *Net) Frame(packet []byte) api.Errno { return errnoOf(n.row.Frame(packet)) }

// Receive takes what waits first (P8).
func (n *Net) Receive(socket int) ([]byte, api.Errno) {
	s, err := n.row.Find(socket)
	if err != nil {
		return nil, errnoOf(err)
	}
	packet, err := s.Receive()
	return packet, errnoOf(err)
}

// Dropped tells how many packets found no room (P8).
func (n *Net) Dropped(socket int) int {
	s, err := n.row.Find(socket)
	if err != nil {
		return 0
	}
	return s.Dropped()
}

// errnoOf tells the number of an error that sockets have.
func errnoOf(err error) api.Errno {
	switch {
	case errors.Is(err, sockets.NoSocket), errors.Is(err, sockets.TooLong):
		return api.ErrArg
	case errors.Is(err, sockets.NoFilter):
		return api.ErrFree
	case errors.Is(err, sockets.Nothing):
		return api.ErrEmpty
	}
	return api.OK
}
