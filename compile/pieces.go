package compile

import (
	"gauge/api"
	"gauge/stack"
	"gauge/word"
)

// A and X stand in the cells that the machine has beside those of a filter.
const (
	cellA = api.Cells
	cellX = api.Cells + 1
)

func pushWord(w int) []byte { return append([]byte{stack.PushWord}, number(w, 4)...) }

func pushCell(n int) []byte { return []byte{stack.PushCell, byte(n)} }

func popCell(n int) []byte { return []byte{stack.PopCell, byte(n)} }

func pushLength() []byte { return []byte{stack.PushLength} }

func reckon(o word.Operator) []byte { return []byte{stack.Reckon, byte(o)} }

func load(size int) []byte { return []byte{stack.Load, byte(size)} }

func stop() []byte { return []byte{stack.Stop} }

// The distance that belongs to it is yet to be written.
func leap() []byte { return []byte{stack.Leap} }

// The distance that belongs to it is yet to be written.
func ask(q word.Question) []byte { return []byte{stack.Ask, byte(q)} }

// number writes the lowest bytes of a number, the highest of them first.
func number(n, size int) []byte {
	b := make([]byte, size)
	for i := range b {
		b[i] = byte(n >> (8 * (size - 1 - i)))
	}
	return b
}
