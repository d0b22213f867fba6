package insn

// Kind is what must be known of an instruction to tell whether it may stand in a filter, and which may come next.
type Kind int

const (
	Unknown Kind = iota // what a code has that the map of kinds does not hold
	Plain
	Divides // by K
	Shifts  // by K
	Reads   // the cell K
	Writes  // the cell K
	Goes    // to one place
	Asks    // and goes to one place or another
	Returns
)

// Kinds tells the kind of each code that there is.
func Kinds() map[int]Kind {
	return map[int]Kind{
		// A or X from the packet, from K, from the packet's length
		0x20: Plain, 0x28: Plain, 0x30: Plain,
		0x40: Plain, 0x48: Plain, 0x50: Plain,
		0x00: Plain, 0x80: Plain,
		0x01: Plain, 0x81: Plain, 0xb1: Plain,
		// between A, X and the cells
		0x60: Reads, 0x61: Reads,
		0x02: Writes, 0x03: Writes,
		0x07: Plain, 0x87: Plain,
		// A reckoned with K
		0x04: Plain, 0x14: Plain, 0x24: Plain, 0x34: Divides, 0x94: Divides,
		0x44: Plain, 0x54: Plain, 0xa4: Plain, 0x64: Shifts, 0x74: Shifts,
		// A reckoned with X: what X is, is seen only when the filter runs
		0x0c: Plain, 0x1c: Plain, 0x2c: Plain, 0x3c: Plain, 0x9c: Plain,
		0x4c: Plain, 0x5c: Plain, 0xac: Plain, 0x6c: Plain, 0x7c: Plain,
		// A alone
		0x84: Plain,
		// jumps
		0x05: Goes,
		0x15: Asks, 0x25: Asks, 0x35: Asks, 0x45: Asks,
		0x1d: Asks, 0x2d: Asks, 0x3d: Asks, 0x4d: Asks,
		// ends
		0x06: Returns, 0x16: Returns,
	}
}
