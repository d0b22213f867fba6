// Package check finds what is wrong with a filter.
package check

import (
	"slices"

	"gauge/api"
	"gauge/insn"
)

// row is the instructions of a filter that is being checked.
type row struct {
	list  []api.Insn
	kinds map[int]insn.Kind
	bad   error // what every fault wraps in the end
}

// Filter answers nil for a filter that may be run, else a *api.Fault in which errors.Is finds bad (P4).
func Filter(filter []byte, bad error) error {
	list, code := insn.Decode(filter)
	if code != api.OK {
		return newFault(code, 0, bad)
	}
	r := row{list: list, kinds: insn.Kinds(), bad: bad}
	if err := r.checkEach(); err != nil {
		return err
	}
	if err := r.checkEnd(); err != nil {
		return err
	}
	return r.checkCells()
}

func (r *row) kind(at int) insn.Kind { return r.kinds[r.list[at].Code] }

func (r *row) last() int { return len(r.list) - 1 }

func (r *row) fault(code api.Errno, at int) error { return newFault(code, at, r.bad) }

// checkEach looks at every instruction, also at one to which no way leads.
func (r *row) checkEach() error {
	for at := range r.list {
		if code := r.wrong(at); code != api.OK {
			return r.fault(code, at)
		}
	}
	return nil
}

// wrong tells what is wrong with an instruction, whatever the others do.
func (r *row) wrong(at int) api.Errno {
	k := r.list[at].K
	switch r.kind(at) {
	case insn.Unknown:
		return api.ErrCode
	case insn.Divides:
		return when(k == 0, api.ErrZero)
	case insn.Shifts:
		return when(k > 31, api.ErrShift)
	case insn.Reads, insn.Writes:
		return when(k >= api.Cells, api.ErrCell)
	case insn.Goes, insn.Asks:
		return when(slices.Max(r.next(at)) > r.last(), api.ErrJump)
	}
	return api.OK
}

func when(wrong bool, code api.Errno) api.Errno {
	if wrong {
		return code
	}
	return api.OK
}

// next tells the places at which a filter may go on behind an instruction.
func (r *row) next(at int) []int {
	in, behind := r.list[at], at+1
	switch r.kind(at) {
	case insn.Returns:
		return nil
	case insn.Goes:
		return []int{behind + in.K}
	case insn.Asks:
		return []int{behind + in.Jt, behind + in.Jf}
	}
	return []int{behind}
}

func (r *row) checkEnd() error {
	if r.kind(r.last()) != insn.Returns {
		return r.fault(api.ErrEnd, r.last())
	}
	return nil
}
