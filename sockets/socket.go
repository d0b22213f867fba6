package sockets

import (
	"bytes"
	"slices"

	"gauge/api"
)

// Socket is a filter, if there is one, and what came through it and its forerunners.
type Socket struct {
	filter  judge // nil without a filter
	waits   [][]byte
	dropped int
}

// Attach keeps a filter that has passed the check, in place of another one.
func (s *Socket) Attach(list []api.Insn, compiled bool) { s.filter = newJudge(list, compiled) }

// Detach takes the filter away, or answers NoFilter.
func (s *Socket) Detach() error {
	if s.filter == nil {
		return NoFilter
	}
	s.filter = nil
	return nil
}

// offer lets as much of a packet wait as the filter wants.
func (s *Socket) offer(packet []byte) {
	if s.filter == nil {
		return
	}
	if verdict := s.filter.verdict(packet); verdict != 0 {
		s.keep(packet[:min(len(packet), int(verdict))])
	}
}

func (s *Socket) keep(packet []byte) {
	if len(s.waits) >= api.Queue {
		s.dropped++
		return
	}
	s.waits = append(s.waits, bytes.Clone(packet)) // the packet is its caller's
}

// Receive hands out what waits first, or answers Nothing.
func (s *Socket) Receive() ([]byte, error) {
	if len(s.waits) == 0 {
		return nil, Nothing
	}
	first := s.waits[0]
	s.waits = slices.Delete(s.waits, 0, 1) // which also forgets what is handed out
	return first, nil
}

// Dropped tells how many packets found no room.
func (s *Socket) Dropped() int { return s.dropped }
