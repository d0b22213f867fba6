// Package run runs filters.
package run

import (
	"gauge/api"
	"gauge/insn"
	"gauge/word"
)

// machine is a filter at work on a packet.
type machine struct {
	packet  []byte
	a, x    uint32
	cells   [api.Cells]uint32
	at      int // the place of the instruction that comes next
	ended   bool
	verdict uint32

	kinds     map[int]insn.Kind
	sizes     map[int]int
	operators map[int]word.Operator
	questions map[int]word.Question
}

// Filter tells the verdict of instructions that have passed the check (P5): so it ends, as no jump leads back and the last one returns.
func Filter(list []api.Insn, packet []byte) uint32 {
	m := machine{
		packet:    packet,
		kinds:     insn.Kinds(),
		sizes:     insn.Sizes(),
		operators: insn.Operators(),
		questions: insn.Questions(),
	}
	for !m.ended {
		in := list[m.at]
		m.at++ // first, as a jump is told from the next instruction on
		m.do(in)
	}
	return m.verdict
}

func (m *machine) do(in api.Insn) {
	switch m.kinds[in.Code] {
	case insn.Loads:
		m.load(in)
	case insn.Takes, insn.Reads:
		m.take(in)
	case insn.Copies, insn.Writes:
		m.copy(in)
	case insn.Reckons, insn.Divides, insn.Shifts:
		m.reckon(in)
	case insn.Goes, insn.Asks:
		m.jump(in)
	case insn.Returns:
		m.give(in)
	}
}

func (m *machine) load(in api.Insn) {
	from := in.K
	switch in.Code {
	case 0x40, 0x48, 0x50:
		from += int(m.x) // not as words, which would wrap round
		fallthrough
	case 0x20, 0x28, 0x30:
		m.a = m.bytes(from, in.Code)
	case 0xb1:
		m.x = 4 * (m.bytes(from, in.Code) & 15)
	}
}

// bytes ends the filter if it reads beyond the packet.
func (m *machine) bytes(from, code int) uint32 {
	w, ok := word.Load(m.packet, from, m.sizes[code])
	if !ok {
		m.end(0)
	}
	return w
}

func (m *machine) take(in api.Insn) {
	k := uint32(in.K)
	switch in.Code {
	case 0x60:
		k = m.cells[in.K]
		fallthrough
	case 0x00:
		m.a = k
	case 0x80:
		m.a = uint32(len(m.packet))
	case 0x61:
		k = m.cells[in.K]
		fallthrough
	case 0x01:
		m.x = k
	case 0x81:
		m.x = uint32(len(m.packet))
	}
}

func (m *machine) copy(in api.Insn) {
	switch in.Code {
	case 0x02:
		m.cells[in.K] = m.a
	case 0x03:
		m.cells[in.K] = m.x
	case 0x07:
		m.x = m.a
	case 0x87:
		m.a = m.x
	}
}

func (m *machine) reckon(in api.Insn) {
	k := uint32(in.K)
	switch in.Code {
	case 0x0c, 0x1c, 0x2c, 0x3c, 0x9c, 0x4c, 0x5c, 0xac, 0x6c, 0x7c:
		k = m.x
		fallthrough
	case 0x04, 0x14, 0x24, 0x34, 0x94, 0x44, 0x54, 0xa4, 0x64, 0x74:
		m.become(word.Reckon(m.operators[in.Code], m.a, k))
	case 0x84:
		m.a = -m.a
	}
}

// become ends the filter if there is nothing that A could become.
func (m *machine) become(w uint32, ok bool) {
	if !ok {
		m.end(0)
	}
	m.a = w
}

func (m *machine) jump(in api.Insn) {
	k := uint32(in.K)
	switch in.Code {
	case 0x1d, 0x2d, 0x3d, 0x4d:
		k = m.x
		fallthrough
	case 0x15, 0x25, 0x35, 0x45:
		m.choose(in, word.Holds(m.questions[in.Code], m.a, k))
	case 0x05:
		m.at += in.K
	}
}

func (m *machine) choose(in api.Insn, yes bool) {
	if yes {
		m.at += in.Jt
	} else {
		m.at += in.Jf
	}
}

func (m *machine) give(in api.Insn) {
	k := uint32(in.K)
	switch in.Code {
	case 0x16:
		k = m.a
		fallthrough
	case 0x06:
		m.end(k)
	}
}

func (m *machine) end(verdict uint32) {
	m.ended, m.verdict = true, verdict
}
