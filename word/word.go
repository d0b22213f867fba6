// Package word reckons with words (numbers of 32 bits that wrap round) and reads them from bytes. Filters and code share it, so that both mean the same by it.
package word

// Operator is what makes a word of two.
type Operator int

// In the order in which code numbers them.
const (
	Plus Operator = iota
	Minus
	Times
	Divided
	Modulo
	Or
	And
	Xor
	Left
	Right
	Operators // how many there are
)

// Question is what may be asked of two words.
type Question int

// In the order in which code numbers them.
const (
	Equal Question = iota
	Above
	AtLeast
	Common    // have they a bit in common?
	Questions // how many there are
)

// Reckon tells x o y; it is not ok to divide by 0.
func Reckon(o Operator, x, y uint32) (w uint32, ok bool) {
	if y == 0 && (o == Divided || o == Modulo) {
		return 0, false
	}
	return reckon(o, x, y), true
}

func reckon(o Operator, x, y uint32) uint32 {
	switch o {
	case Plus:
		return x + y
	case Minus:
		return x - y
	case Times:
		return x * y
	case Divided:
		return x / y
	case Modulo:
		return x % y
	case Or:
		return x | y
	case And:
		return x & y
	case Xor:
		return x ^ y
	case Left:
		return x << y
	case Right:
		return x >> y
	}
	return 0
}

// Holds tells whether the answer to a question is yes.
func Holds(q Question, x, y uint32) bool {
	switch q {
	case Equal:
		return x == y
	case Above:
		return x > y
	case AtLeast:
		return x >= y
	case Common:
		return x&y != 0
	}
	return false
}

// Load reads 4, 2, 1 or no bytes from a place on, the highest first; it is not ok if they reach beyond the list.
func Load(list []byte, from, size int) (w uint32, ok bool) {
	if from+size > len(list) {
		return 0, false
	}
	return load(list[from:], size), true
}

func load(list []byte, size int) (w uint32) {
	switch size {
	case 4:
		w = load(list, 2)
		list = list[2:]
		fallthrough
	case 2:
		w = w<<8 | load(list, 1)
		list = list[1:]
		fallthrough
	case 1:
		w = w<<8 | uint32(list[0])
	}
	return w
}
