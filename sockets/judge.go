package sockets

import (
	"gauge/api"
	"gauge/compile"
	"gauge/run"
	"gauge/stack"
)

// judge tells the verdict of a filter, in one way or the other.
type judge interface {
	verdict(packet []byte) uint32
}

func newJudge(list []api.Insn, compiled bool) judge {
	if compiled {
		return code(compile.Filter(list))
	}
	return instructions(list)
}

type instructions []api.Insn

func (l instructions) verdict(packet []byte) uint32 { return run.Filter(l, packet) }

type code []byte

func (c code) verdict(packet []byte) uint32 {
	result, _, _ := stack.Exec(c, packet) // what was compiled has no fault
	return result
}
