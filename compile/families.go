package compile

import (
	"gauge/api"
	"gauge/word"
)

// load needs no question whether the bytes are there: the code stops with 0 where the filter returns it.
func (c *compiler) load(in api.Insn) {
	base, bytes := pushWord(0), load(c.sizes[in.Code])
	switch in.Code {
	case 0x40, 0x48, 0x50:
		base = pushCell(cellX)
		fallthrough
	case 0x20, 0x28, 0x30:
		c.write(base, pushWord(in.K), bytes, popCell(cellA))
	case 0xb1:
		c.write(base, pushWord(in.K), bytes)
		c.write(pushWord(15), reckon(word.And), pushWord(4), reckon(word.Times), popCell(cellX))
	}
}

func (c *compiler) take(in api.Insn) {
	k := pushWord(in.K)
	switch in.Code {
	case 0x60:
		k = pushCell(in.K)
		fallthrough
	case 0x00:
		c.write(k, popCell(cellA))
	case 0x80:
		c.write(pushLength(), popCell(cellA))
	case 0x61:
		k = pushCell(in.K)
		fallthrough
	case 0x01:
		c.write(k, popCell(cellX))
	case 0x81:
		c.write(pushLength(), popCell(cellX))
	}
}

func (c *compiler) copy(in api.Insn) {
	switch in.Code {
	case 0x02:
		c.write(pushCell(cellA), popCell(in.K))
	case 0x03:
		c.write(pushCell(cellX), popCell(in.K))
	case 0x07:
		c.write(pushCell(cellA), popCell(cellX))
	case 0x87:
		c.write(pushCell(cellX), popCell(cellA))
	}
}

// reckon leaves it to the code to stop with 0 where X is a divisor 0.
func (c *compiler) reckon(in api.Insn) {
	k := pushWord(in.K)
	switch in.Code {
	case 0x0c, 0x1c, 0x2c, 0x3c, 0x9c, 0x4c, 0x5c, 0xac, 0x6c, 0x7c:
		k = pushCell(cellX)
		fallthrough
	case 0x04, 0x14, 0x24, 0x34, 0x94, 0x44, 0x54, 0xa4, 0x64, 0x74:
		c.write(pushCell(cellA), k, reckon(c.operators[in.Code]), popCell(cellA))
	case 0x84:
		c.write(pushWord(0), pushCell(cellA), reckon(word.Minus), popCell(cellA))
	}
}

// jump: behind a question to which the answer is no, there is one place left to go to.
func (c *compiler) jump(in api.Insn) {
	k, to := pushWord(in.K), in.K
	switch in.Code {
	case 0x1d, 0x2d, 0x3d, 0x4d:
		k = pushCell(cellX)
		fallthrough
	case 0x15, 0x25, 0x35, 0x45:
		c.write(pushCell(cellA), k, ask(c.questions[in.Code]))
		c.leaveGap(in.Jt)
		to = in.Jf
		fallthrough
	case 0x05:
		c.write(leap())
		c.leaveGap(to)
	}
}

func (c *compiler) give(in api.Insn) {
	k := pushWord(in.K)
	switch in.Code {
	case 0x16:
		k = pushCell(cellA)
		fallthrough
	case 0x06:
		c.write(k, stop())
	}
}
