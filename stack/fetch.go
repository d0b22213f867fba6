package stack

import (
	"gauge/api"
	"gauge/word"
)

// The bytes with which instructions begin.
const (
	PushWord   = 1
	PushCell   = 2
	PopCell    = 3
	Reckon     = 4
	Load       = 5
	PushLength = 6
	Leap       = 7
	Ask        = 8
	Stop       = 9
)

// instruction is one that has been read from the code.
type instruction struct {
	op     byte
	which  uint32 // the cell, the operator, the size or the question
	number uint32 // the word or the distance
}

// shape is what is told of an instruction by its first byte: how many bytes belong to it, and what it does to the stack.
type shape struct {
	which, number int // bytes
	pops, pushes  int // words
}

func shapes() map[byte]shape {
	return map[byte]shape{
		PushWord:   {number: 4, pushes: 1},
		PushCell:   {which: 1, pushes: 1},
		PopCell:    {which: 1, pops: 1},
		Reckon:     {which: 1, pops: 2, pushes: 1},
		Load:       {which: 1, pops: 2, pushes: 1},
		PushLength: {pushes: 1},
		Leap:       {number: 2},
		Ask:        {which: 1, number: 2, pops: 2},
		Stop:       {pops: 1},
	}
}

// fetch reads the next instruction and goes on behind it; it is not ok if there is none, or not all of it.
func (m *machine) fetch() (in instruction, ok bool) {
	first, ok := word.Load(m.code, m.at, 1)
	if !ok {
		return in, false
	}
	in.op = byte(first)
	s, ok := m.shapes[in.op]
	if !ok {
		return in, false
	}
	from := m.at + 1 + s.which
	in.which, _ = word.Load(m.code, m.at+1, s.which)
	in.number, ok = word.Load(m.code, from, s.number)
	m.at = from + s.number
	return in, ok
}

// fits tells whether the machine has what the instruction asks for: then it is no fault.
func (m *machine) fits(in instruction) bool {
	s := m.shapes[in.op]
	left := len(m.words) - s.pops
	return left >= 0 && left+s.pushes <= api.MaxStack && known(in)
}

func known(in instruction) bool {
	switch in.op {
	case PushCell, PopCell:
		return in.which < cells
	case Reckon:
		return in.which < uint32(word.Operators)
	case Load:
		return in.which == 1 || in.which == 2 || in.which == 4
	case Ask:
		return in.which < uint32(word.Questions)
	}
	return true
}
