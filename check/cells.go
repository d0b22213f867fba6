package check

import (
	"gauge/api"
	"gauge/insn"
)

// cells is a set of cells, a bit for each.
type cells uint16

func cell(n int) cells { return 1 << n }

// ways holds, of each place to which a way leads, the cells that are written on all ways to it.
type ways map[int]cells

// join adds a way on which these cells are written.
func (w ways) join(place int, written cells) {
	if known, ok := w[place]; ok {
		written &= known
	}
	w[place] = written
}

// checkCells goes through the filter once: as no jump leads back, all ways to a place are known when it is reached.
func (r *row) checkCells() error {
	w := ways{0: 0}
	for at, in := range r.list {
		written, reached := w[at]
		if !reached {
			continue
		}
		switch r.kind(at) {
		case insn.Reads:
			if written&cell(in.K) == 0 {
				return r.fault(api.ErrFirst, at)
			}
		case insn.Writes:
			written |= cell(in.K)
		}
		for _, place := range r.next(at) {
			w.join(place, written)
		}
	}
	return nil
}
