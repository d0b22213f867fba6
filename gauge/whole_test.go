package gauge_test

import (
	"bytes"
	"math/rand"
	"slices"
	"testing"

	"gauge/api"
	"gauge/gauge"
)

// Encode of what Decode tells is the filter, whatever its bytes are.
func TestP9BytesAndBack(t *testing.T) {
	r := source()
	for range 2000 {
		filter := make([]byte, 8*(1+r.Intn(api.MaxFilter)))
		r.Read(filter)
		list, code := gauge.Decode(filter)
		if code != api.OK {
			t.Fatalf("P9: Decode of %d bytes = %d", len(filter), code)
		}
		if back := gauge.Encode(list); !bytes.Equal(back, filter) {
			t.Fatalf("P9: Encode of Decode(% x) = % x", filter, back)
		}
	}
}

// Decode of what Encode makes are the instructions, if their numbers have room.
func TestP9InstructionsAndBack(t *testing.T) {
	r := source()
	ends := func(most int) int { return []int{0, 1, most / 2, most - 1, most, r.Intn(most + 1)}[r.Intn(6)] }
	for range 2000 {
		list := make([]api.Insn, 1+r.Intn(api.MaxFilter))
		for i := range list {
			list[i] = api.Insn{Code: ends(65535), Jt: ends(255), Jf: ends(255), K: ends(highest)}
		}
		back, code := gauge.Decode(gauge.Encode(list))
		if code != api.OK || !slices.Equal(back, list) {
			t.Fatalf("P9: Decode of Encode(%v) = %v, %d", list, back, code)
		}
	}
}

// Run, and Exec of what Compile makes, agree: also of filters that are refused, as both refuse them.
func TestP9RunAndCodeAgree(t *testing.T) {
	r := source()
	filters := hardFilters()
	for range 3000 {
		filters = append(filters, filterOf(randomProgram(r)...), filterOf(longProgram(r)...))
	}
	for _, b := range filters {
		code, errno := gauge.Compile(b)
		for _, packet := range somePackets() {
			verdict, runErrno := gauge.Run(b, packet)
			if errno != api.OK {
				if runErrno != errno {
					t.Fatalf("P9: Compile(% x) tells %d, and Run %d", b, errno, runErrno)
				}
				continue
			}
			if result, _, execErrno := gauge.Exec(code, packet); result != verdict || execErrno != runErrno {
				t.Fatalf("P9: Run(% x) of %d bytes = %d, %d, and by code %d, %d", b, len(packet), verdict, runErrno, result, execErrno)
			}
		}
	}
}

// No instruction is done twice: each counts here that it is done.
func TestP9EachInstructionOnce(t *testing.T) {
	for n := range api.MaxFilter {
		list := row(slices.Repeat(one(op(0x04, 1)), n), giveA)
		mustRun(t, nil, n, list...)
		mustDo(t, mustCompile(t, list), list, nil, n)
	}
}

// markers: instructions that each add to a digit of their own (to the base 4), with jumps to any place behind them in between. Of one that is done twice the digit is 2.
func markers(r *rand.Rand) []api.Insn {
	var list []api.Insn
	for i := range 16 {
		list = append(list, op(0x04, 1<<(2*i)), op(0x05, 0), op(0x45, r.Int()&highest))
	}
	for i := range list {
		room := min(len(list)-1-i, 1+r.Intn(20))
		switch list[i].Code {
		case 0x05:
			list[i].K = r.Intn(room + 1)
		case 0x45:
			list[i].Jt, list[i].Jf = r.Intn(room+1), r.Intn(room+1)
		}
	}
	return append(list, op(0x16, 0))
}

func TestP9NoInstructionTwice(t *testing.T) {
	r := source()
	for range 2000 {
		list := markers(r)
		verdict, errno := gauge.Run(filterOf(list...), nil)
		if errno != api.OK || verdict&0xaaaaaaaa != 0 || verdict == 0 {
			t.Fatalf("P9: Run(%+v) = %#x, %d", list, verdict, errno)
		}
		mustDo(t, mustCompile(t, list), list, nil, verdict)
	}
}

// Whether a filter is attached compiled or not is not seen: the calls answer the same in nets that differ in this alone.
func TestP9CompiledIsNotSeen(t *testing.T) {
	r := source()
	for range 100 {
		nets := []*gauge.Net{gauge.New(), gauge.New(), gauge.New()}
		for range 400 {
			s, mixed := randomStep(r), r.Intn(2) == 0
			if r.Intn(2) == 0 {
				s.list = longProgram(r)
			}
			var answers []seen
			for i, n := range nets {
				s.compiled = i == 0 || i == 1 && mixed
				answers = append(answers, s.do(n))
			}
			if answers[0] != answers[2] || answers[1] != answers[2] {
				t.Fatalf("P9: %#v = %#v, compiled, mixed and not", s, answers)
			}
		}
	}
}
