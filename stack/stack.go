// Package stack runs code of the machine that has a stack.
package stack

import (
	"gauge/api"
	"gauge/word"
)

// cells is how many cells the machine has: those of a filter and two more.
const cells = api.Cells + 2

// machine is code at work on a packet.
type machine struct {
	code, packet []byte
	shapes       map[byte]shape
	at           int // the byte at which the next instruction begins
	words        []uint32
	cells        [cells]uint32
	stopped      bool
	result       uint32
}

// Exec tells with what the code stops and in how many steps, or, if it is not ok, how many steps were done ahead of the fault (P6).
func Exec(code, packet []byte) (result uint32, steps int, ok bool) {
	m := machine{code: code, packet: packet, shapes: shapes()}
	for done := range api.MaxSteps {
		in, ok := m.fetch()
		if !ok || !m.fits(in) {
			return 0, done, false
		}
		m.do(in)
		if m.stopped {
			return m.result, done + 1, true
		}
	}
	return 0, api.MaxSteps, false
}

// do does an instruction that is known to be no fault.
func (m *machine) do(in instruction) {
	w := in.number
	switch in.op {
	case PushCell:
		w = m.cells[in.which]
		fallthrough
	case PushWord:
		m.push(w)
	case PushLength:
		m.push(uint32(len(m.packet)))
	case PopCell:
		m.cells[in.which] = m.pop()
	case Reckon:
		y, x := m.pop(), m.pop()
		m.pushOrStop(word.Reckon(word.Operator(in.which), x, y))
	case Load:
		y, x := m.pop(), m.pop()
		from := int(x) + int(y) // not as words, which would wrap round
		m.pushOrStop(word.Load(m.packet, from, int(in.which)))
	case Ask:
		y, x := m.pop(), m.pop()
		if !word.Holds(word.Question(in.which), x, y) {
			break
		}
		fallthrough
	case Leap:
		m.at += int(w)
	case Stop:
		m.stop(m.pop())
	}
}

func (m *machine) push(w uint32) { m.words = append(m.words, w) }

func (m *machine) pop() uint32 {
	top := len(m.words) - 1
	w := m.words[top]
	m.words = m.words[:top]
	return w
}

func (m *machine) pushOrStop(w uint32, ok bool) {
	if !ok {
		m.stop(0)
		return
	}
	m.push(w)
}

func (m *machine) stop(result uint32) { m.stopped, m.result = true, result }
