package insn

import "gauge/word"

// Kind is the family of an instruction: what must be known to tell whether it may stand in a filter, which may come next, and how it is done.
type Kind int

const (
	Unknown Kind = iota // what a code has that the map of kinds does not hold
	Loads               // from the packet
	Takes               // what is no part of the packet and no cell
	Reads               // the cell K
	Writes              // the cell K
	Copies              // between A and X
	Reckons
	Divides // by K
	Shifts  // by K
	Goes    // to one place
	Asks    // and goes to one place or another
	Returns
)

// Kinds tells the kind of each code that there is.
func Kinds() map[int]Kind {
	return map[int]Kind{
		0x20: Loads, 0x28: Loads, 0x30: Loads,
		0x40: Loads, 0x48: Loads, 0x50: Loads, 0xb1: Loads,
		0x00: Takes, 0x80: Takes, 0x01: Takes, 0x81: Takes,
		0x60: Reads, 0x61: Reads,
		0x02: Writes, 0x03: Writes,
		0x07: Copies, 0x87: Copies,
		// with K
		0x04: Reckons, 0x14: Reckons, 0x24: Reckons, 0x34: Divides, 0x94: Divides,
		0x44: Reckons, 0x54: Reckons, 0xa4: Reckons, 0x64: Shifts, 0x74: Shifts,
		// with X: what X is, is seen only when the filter runs
		0x0c: Reckons, 0x1c: Reckons, 0x2c: Reckons, 0x3c: Reckons, 0x9c: Reckons,
		0x4c: Reckons, 0x5c: Reckons, 0xac: Reckons, 0x6c: Reckons, 0x7c: Reckons,
		0x84: Reckons,
		0x05: Goes,
		0x15: Asks, 0x25: Asks, 0x35: Asks, 0x45: Asks,
		0x1d: Asks, 0x2d: Asks, 0x3d: Asks, 0x4d: Asks,
		0x06: Returns, 0x16: Returns,
	}
}

// Sizes tells how many bytes are loaded.
func Sizes() map[int]int {
	return map[int]int{
		0x20: 4, 0x28: 2, 0x30: 1,
		0x40: 4, 0x48: 2, 0x50: 1, 0xb1: 1,
	}
}

// Operators tells by what A is reckoned with K or X.
func Operators() map[int]word.Operator {
	return map[int]word.Operator{
		0x04: word.Plus, 0x0c: word.Plus,
		0x14: word.Minus, 0x1c: word.Minus,
		0x24: word.Times, 0x2c: word.Times,
		0x34: word.Divided, 0x3c: word.Divided,
		0x94: word.Modulo, 0x9c: word.Modulo,
		0x44: word.Or, 0x4c: word.Or,
		0x54: word.And, 0x5c: word.And,
		0xa4: word.Xor, 0xac: word.Xor,
		0x64: word.Left, 0x6c: word.Left,
		0x74: word.Right, 0x7c: word.Right,
	}
}

// Questions tells what is asked of A and K or X.
func Questions() map[int]word.Question {
	return map[int]word.Question{
		0x15: word.Equal, 0x1d: word.Equal,
		0x25: word.Above, 0x2d: word.Above,
		0x35: word.AtLeast, 0x3d: word.AtLeast,
		0x45: word.Common, 0x4d: word.Common,
	}
}
