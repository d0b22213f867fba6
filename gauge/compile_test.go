package gauge_test

import (
	"bytes"
	"math/rand"
	"slices"
	"testing"

	"gauge/api"
	"gauge/gauge"
)

// mustCompile: the filter has code, which is not too long and the same another time.
func mustCompile(t *testing.T, list []api.Insn) []byte {
	t.Helper()
	filter := filterOf(list...)
	code, errno := gauge.Compile(filter)
	if errno != api.OK || len(code) == 0 {
		t.Fatalf("P7: Compile(%+v) = % x, %d", list, code, errno)
	}
	if most := 48*len(list) + 48; len(code) > most {
		t.Errorf("P7: Compile(%+v): %d bytes, at most %d are right", list, len(code), most)
	}
	if again, _ := gauge.Compile(filter); !bytes.Equal(again, code) {
		t.Errorf("P7: Compile(%+v) = % x, and another time % x", list, code, again)
	}
	return code
}

// mustDo: the code stops with the verdict, in not too many steps; the slow machine says so, too, in case that Exec and Compile are wrong in the same way.
func mustDo(t *testing.T, code []byte, list []api.Insn, packet []byte, verdict int) {
	t.Helper()
	result, steps, errno := gauge.Exec(code, packet)
	if result != verdict || errno != api.OK || steps > 16*len(list)+16 {
		t.Errorf("P7: the code of %+v, of %d bytes: Exec = %#x, %d, %d, want %#x", list, len(packet), result, steps, errno, verdict)
	}
	slowResult, slowSteps, slowErrno := slowExec(code, packet)
	if slowResult != verdict || slowErrno != api.OK || slowSteps != steps {
		t.Errorf("P7: the code of %+v, of %d bytes: %#x, %d, %d on the slow machine, want %#x, %d", list, len(packet), slowResult, slowSteps, slowErrno, verdict, steps)
	}
}

// mustAgree: the filter's code does what the document says that the filter does.
func mustAgree(t *testing.T, packet []byte, list ...api.Insn) {
	t.Helper()
	mustDo(t, mustCompile(t, list), list, packet, verdictOf(list, packet))
}

func TestP7EveryInstruction(t *testing.T) {
	for _, c := range runCases() {
		mustDo(t, mustCompile(t, c.list), c.list, ninePacket, c.verdict)
	}
}

// Every number of which an instruction does not speak is another one here.
func TestP7WhatDoesNotMatter(t *testing.T) {
	for _, c := range runCases() {
		list := slices.Clone(c.list)
		for i := range list {
			places, k := speaks(list[i].Code)
			if !places {
				list[i].Jt, list[i].Jf = 255, 254
			}
			if !k {
				list[i].K = highest - 1
			}
		}
		mustDo(t, mustCompile(t, list), list, ninePacket, c.verdict)
	}
}

func TestP7Operators(t *testing.T) {
	for o := range byK {
		for _, x := range edges {
			for _, y := range edges {
				// Another number stands where the operator does not look.
				mustAgree(t, nil, op(0x00, x), op(0x01, y), op(byX[o], 9), op(0x16, 0))
				mustAgree(t, nil, op(0x00, x), op(0x01, y), op(byX[o], 9), op(0x06, 5))
				if zero, far := (o == 3 || o == 4) && y == 0, o > 7 && y > 31; !zero && !far {
					mustAgree(t, nil, op(0x01, 9), op(0x00, x), op(byK[o], y), op(0x16, 0))
				}
			}
		}
	}
	for _, x := range edges {
		mustAgree(t, nil, op(0x01, 9), op(0x00, x), op(0x84, 9), op(0x16, 0))
	}
}

func TestP7Questions(t *testing.T) {
	for c := range askK {
		for _, x := range edges {
			for _, y := range edges {
				mustAgree(t, nil, row(one(op(0x00, x), op(0x01, 77)), yesOrNo(askK[c], y))...)
				mustAgree(t, nil, row(one(op(0x00, x), op(0x01, y)), yesOrNo(askX[c], 77))...)
			}
		}
	}
}

// What an instruction does not speak of stays: A, X and every cell.
func TestP7RestStays(t *testing.T) {
	for _, c := range runCases() {
		middle := slices.DeleteFunc(slices.Clone(c.list), func(in api.Insn) bool { return in.Code%8 >= 5 })
		for n := range api.Cells {
			start := one(op(0x00, 70), op(0x02, n), op(0x00, 80), op(0x01, 90), op(0x03, 3))
			mustAgree(t, ninePacket, row(start, middle, one(op(0x60, n)), giveA)...)
			mustAgree(t, ninePacket, row(start, middle, giveA)...)
			mustAgree(t, ninePacket, row(start, middle, giveX)...)
		}
	}
}

func TestP7Cells(t *testing.T) {
	for _, write := range []int{0x02, 0x03} {
		var list []api.Insn
		for n := range api.Cells {
			list = append(list, op(0x00, 100+n), op(0x01, 200+n), op(write, n))
		}
		for n := range api.Cells {
			mustAgree(t, nil, row(list, one(op(0x60, n)), giveA)...)
			mustAgree(t, nil, row(list, one(op(0x61, n)), giveX)...)
		}
		mustAgree(t, nil, row(list, giveA)...)
		mustAgree(t, nil, row(list, giveX)...)
	}
}

func TestP7Jumps(t *testing.T) {
	for d := range api.MaxFilter - 1 {
		other := api.MaxFilter - 2 - d
		mustAgree(t, nil, numbered(api.Insn{Code: 0x05, Jt: other, Jf: other, K: d})...)
		for c := range askK {
			mustAgree(t, nil, numbered(ask(askK[c], d, other))...)
			mustAgree(t, nil, numbered(ask(askK[c], other, d))...)
			mustAgree(t, nil, numbered(ask(askX[c], d, other))...)
			mustAgree(t, nil, numbered(ask(askX[c], other, d))...)
		}
	}
}

// numberedAfter is a filter in which the last instructions tell by their verdicts which of them was reached, with d instructions of one code ahead of them.
func numberedAfter(first api.Insn, code, d int) []api.Insn {
	between := slices.Repeat(one(op(code, 1)), d)
	return row(one(first), between, one(op(0x06, 1), op(0x06, 2), op(0x06, 3)))
}

// Jumps over as many bytes of code as there may be, to two places that differ.
func TestP7JumpsOverEveryInstruction(t *testing.T) {
	for _, code := range codes {
		if code&7 == 5 || code == 0x60 || code == 0x61 {
			continue // a question or jump: random filters have them; a cell that is not written
		}
		for _, d := range []int{0, 1, 2, 9, 10, 40, 251, 252} {
			mustAgree(t, nil, numberedAfter(op(0x05, d), code, d)...)
			mustAgree(t, nil, numberedAfter(op(0x05, d+1), code, d)...)
			mustAgree(t, nil, numberedAfter(ask(0x15, d, d+1), code, d)...) // A is 0: yes
			mustAgree(t, nil, numberedAfter(ask(0x25, d, d+1), code, d)...) // no
			mustAgree(t, nil, numberedAfter(ask(0x25, d, d+2), code, d)...)
			mustAgree(t, ninePacket, numberedAfter(ask(0x15, 0, d), code, d)...)
			mustAgree(t, ninePacket, numberedAfter(ask(0x2d, d+2, 0), code, d)...)
		}
	}
}

// At each instruction a question goes on over none, one, or many, up to the last one.
func TestP7ManyJumps(t *testing.T) {
	for _, far := range []int{0, 1, 7, 100, 255} {
		var list []api.Insn
		for i := range api.MaxFilter - 1 {
			room := api.MaxFilter - 2 - i
			list = append(list, api.Insn{Code: askK[i%4], Jt: min(far, room), Jf: min(i%3, room), K: i % 5})
		}
		for a := range 6 {
			list[0] = op(0x00, a)
			mustAgree(t, nil, append(list, op(0x06, 5))...)
		}
	}
}

func TestP7Loads(t *testing.T) {
	for _, n := range []int{0, 1, 2, 3, 4, 5, 70, api.MaxPacket} {
		packet := packetOf(n)
		for _, code := range []int{0x20, 0x28, 0x30, 0xb1} {
			for from := max(0, n-5); from < n+3; from++ {
				mustAgree(t, packet, op(code, from), op(0x0c, 0), op(0x16, 0))
				mustAgree(t, packet, op(code, from), op(0x06, 5))
			}
		}
		for _, code := range []int{0x40, 0x48, 0x50} {
			for from := max(0, n-5); from < n+3; from++ {
				for _, x := range []int{0, from / 2, from} {
					mustAgree(t, packet, op(0x01, x), op(code, from-x), op(0x16, 0))
					mustAgree(t, packet, op(0x01, x), op(code, from-x), op(0x06, 5))
				}
			}
		}
	}
}

// No sum of a place wraps round.
func TestP7LoadsFarAway(t *testing.T) {
	packet := packetOf(api.MaxPacket)
	for _, k := range edges {
		for _, code := range []int{0x20, 0x28, 0x30, 0xb1} {
			mustAgree(t, packet, op(code, k), op(0x06, 5))
		}
		for _, x := range append([]int{(1<<32 - k) & highest, (1<<32 + 9 - k) & highest}, edges...) {
			for _, code := range []int{0x40, 0x48, 0x50} {
				mustAgree(t, packet, op(0x01, x), op(code, k), op(0x06, 5))
			}
		}
	}
}

func TestP7HeaderLength(t *testing.T) {
	for b := range 256 {
		mustAgree(t, []byte{0xff, byte(b)}, row(one(op(0xb1, 1)), giveX)...)
	}
}

func TestP7OneInstruction(t *testing.T) {
	for _, n := range []int{0, 1, api.MaxPacket - 1, api.MaxPacket} {
		for _, k := range edges {
			mustDo(t, mustCompile(t, one(op(0x06, k))), one(op(0x06, k)), packetOf(n), k)
		}
		mustDo(t, mustCompile(t, giveA), giveA, packetOf(n), 0)
		mustAgree(t, packetOf(n), op(0x80, 0), op(0x16, 0))
		mustAgree(t, packetOf(n), op(0x81, 0), op(0x87, 0), op(0x16, 0))
	}
}

// The longest filters, of each instruction many times; what would stay on the stack would be too much for it, and no step is left out.
func TestP7LongestFilters(t *testing.T) {
	for _, code := range codes {
		middle := slices.Repeat(one(op(code, 1)), api.MaxFilter-4)
		if code == 0x05 {
			middle = slices.Repeat(one(op(0x05, 0)), api.MaxFilter-4)
		}
		list := row(one(op(0x01, 3), op(0x03, 1), op(0x00, 100)), middle, giveA)
		if len(list) != api.MaxFilter {
			t.Fatalf("a filter of %d instructions", len(list))
		}
		for _, n := range []int{0, 9, api.MaxPacket} {
			mustAgree(t, packetOf(n), list...)
		}
	}
}

func TestP7Errors(t *testing.T) {
	for _, c := range []struct {
		filter []byte
		code   api.Errno
	}{
		{nil, api.ErrSize}, {[]byte{}, api.ErrSize}, {make([]byte, 7), api.ErrSize}, {filterOf(op(0x06, 1))[:7], api.ErrSize},
		{filterOf(slices.Repeat(one(op(0x06, 1)), api.MaxFilter+1)...), api.ErrSize},
		{ended(op(0x08, 0)), api.ErrCode}, {ended(op(0x34, 0)), api.ErrZero}, {ended(op(0x94, 0)), api.ErrZero},
		{ended(op(0x64, 32)), api.ErrShift}, {ended(op(0x74, highest)), api.ErrShift},
		{ended(op(0x02, 16)), api.ErrCell}, {ended(op(0x03, 17)), api.ErrCell}, {ended(op(0x60, 16)), api.ErrCell}, {ended(op(0x61, 17)), api.ErrCell},
		{ended(op(0x05, 1)), api.ErrJump}, {ended(op(0x05, highest)), api.ErrJump}, {ended(ask(0x15, 0, 1)), api.ErrJump}, {ended(ask(0x4d, 255, 0)), api.ErrJump},
		{filterOf(op(0x00, 0)), api.ErrEnd}, {ended(op(0x60, 0)), api.ErrFirst}, {ended(ask(0x15, 0, 1), op(0x02, 7), op(0x61, 7)), api.ErrFirst},
		{filterOf(op(0x06, 7), op(0x60, 16), op(0x06, 7)), api.ErrCell}, // where no way leads, too
	} {
		if code, errno := gauge.Compile(c.filter); code != nil || errno != c.code {
			t.Errorf("P7: Compile(% x) = % x, %d, want %d", c.filter, code, errno, c.code)
		}
	}
}

// Compile refuses what Check refuses, with the same error, and nothing else.
func TestP7ErrorsOfCheck(t *testing.T) {
	met := map[api.Errno]int{}
	for _, b := range hardFilters() {
		want, _ := gauge.Check(b)
		code, errno := gauge.Compile(b)
		if errno != want || (code != nil) != (want == api.OK) {
			t.Fatalf("P7: Compile(% x) = % x, %d, and Check tells %d", b, code, errno, want)
		}
		met[want]++
	}
	for want := api.OK; want <= api.ErrFirst; want++ {
		if met[want] == 0 {
			t.Errorf("no filter met %d", want)
		}
	}
}

// Instructions to which no way leads have no say, but stand between others that have.
func TestP7NoWay(t *testing.T) {
	mustAgree(t, nil, op(0x05, 1), op(0x60, 7), op(0x06, 3))
	mustAgree(t, nil, op(0x06, 3), op(0x61, 15), op(0x16, 0))
	mustAgree(t, ninePacket, ask(0x15, 2, 2), op(0x60, 7), op(0x20, 0), op(0x06, 3))
}

func TestP7Examples(t *testing.T) {
	all := one(op(0x06, 65535))
	some := one(op(0x28, 12), api.Insn{Code: 0x15, Jf: 1, K: 0x0800}, op(0x06, 96), op(0x06, 0))
	kept := one(op(0x02, 3), op(0x61, 3), op(0x16, 0))
	for n := range 40 {
		packet := packetOf(n)
		mustDo(t, mustCompile(t, all), all, packet, 65535)
		mustDo(t, mustCompile(t, some), some, packet, 0)
		mustDo(t, mustCompile(t, kept), kept, packet, 0)
		if n > 13 {
			packet[12], packet[13] = 8, 0
			mustDo(t, mustCompile(t, some), some, packet, 96)
		}
	}
}

// longProgram: random programs behind each other, of which some jumps go much further.
func longProgram(r *rand.Rand) []api.Insn {
	var list []api.Insn
	for n := 1 + r.Intn(api.MaxFilter-1); len(list) < n; {
		piece := randomProgram(r)
		list = append(list, piece[:len(piece)-1]...) // where its return stood, the next one begins
	}
	list = append(list[:min(len(list), api.MaxFilter-1)], op(0x16, 0))
	for i := range list {
		in, room := &list[i], len(list)-2-i
		far := r.Intn(8) == 0
		switch {
		case in.Code == 0x05 && (far || in.K > room):
			in.K = r.Intn(room + 1)
		case in.Code&7 == 5 && (far || max(in.Jt, in.Jf) > room):
			in.Jt, in.Jf = r.Intn(room+1), r.Intn(room+1)
		}
	}
	return list
}

func TestP7RandomPrograms(t *testing.T) {
	r := source()
	some := 0
	for i := range 12000 {
		list := randomProgram(r)
		if i%4 == 0 {
			list = longProgram(r)
		}
		if errno, _ := gauge.Check(filterOf(list...)); errno != api.OK {
			continue
		}
		packet := packetOf(r.Intn(24))
		r.Read(packet)
		mustAgree(t, packet, list...)
		if verdictOf(list, packet) != 0 {
			some++
		}
	}
	if some < 2000 {
		t.Errorf("only %d filters with a verdict that is not 0", some)
	}
}
