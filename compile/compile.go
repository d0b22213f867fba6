// Package compile makes code of the stack machine out of filters.
package compile

import (
	"slices"

	"gauge/api"
	"gauge/insn"
	"gauge/word"
)

// compiler is a filter on its way to code.
type compiler struct {
	code   []byte
	starts []int // where the code of each instruction begins
	gaps   []gap

	kinds     map[int]insn.Kind
	sizes     map[int]int
	operators map[int]word.Operator
	questions map[int]word.Question
}

// gap is room in the code for a distance: how far it is, is known only when all instructions have their code.
type gap struct {
	behind int // the byte behind the room, from which on the distance counts
	to     int // the place in the filter
}

// gapSize is how many bytes a distance has: enough to get over the code of all instructions that a filter may have.
const gapSize = 2

// Filter makes code of instructions that have passed the check (P7). The code of each leaves the stack empty, so that every way to the next one finds it alike.
func Filter(list []api.Insn) []byte {
	c := compiler{
		kinds:     insn.Kinds(),
		sizes:     insn.Sizes(),
		operators: insn.Operators(),
		questions: insn.Questions(),
	}
	for _, in := range list {
		c.starts = append(c.starts, len(c.code))
		c.add(in)
	}
	c.fillGaps()
	return c.code
}

func (c *compiler) add(in api.Insn) {
	switch c.kinds[in.Code] {
	case insn.Loads:
		c.load(in)
	case insn.Takes, insn.Reads:
		c.take(in)
	case insn.Copies, insn.Writes:
		c.copy(in)
	case insn.Reckons, insn.Divides, insn.Shifts:
		c.reckon(in)
	case insn.Goes, insn.Asks:
		c.jump(in)
	case insn.Returns:
		c.give(in)
	}
}

func (c *compiler) write(pieces ...[]byte) {
	c.code = append(c.code, slices.Concat(pieces...)...)
}

// leaveGap leaves room for the distance to the place that lies so many instructions behind the next one.
func (c *compiler) leaveGap(instructions int) {
	c.write(make([]byte, gapSize))
	next := len(c.starts)
	c.gaps = append(c.gaps, gap{behind: len(c.code), to: next + instructions})
}

func (c *compiler) fillGaps() {
	for _, g := range c.gaps {
		distance := c.starts[g.to] - g.behind
		copy(c.code[g.behind-gapSize:], number(distance, gapSize))
	}
}
