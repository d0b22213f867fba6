// Package sockets keeps filters, and the packets that wait behind them.
package sockets

import (
	"errors"

	"gauge/api"
)

// Why something is refused.
var (
	NoSocket = errors.New("a socket that there is not")
	TooLong  = errors.New("a packet that is too long")
	NoFilter = errors.New("a socket without a filter")
	Nothing  = errors.New("nothing waits")
)

// Row is the sockets that packets come in to.
type Row [api.Sockets]Socket

// Find tells the socket of a number, or NoSocket.
func (r *Row) Find(number int) (*Socket, error) {
	if number < 0 || number >= len(r) {
		return nil, NoSocket
	}
	return &r[number], nil
}

// Frame offers a packet to each socket in turn, or answers TooLong.
func (r *Row) Frame(packet []byte) error {
	if len(packet) > api.MaxPacket {
		return TooLong
	}
	for i := range r {
		r[i].offer(packet)
	}
	return nil
}
