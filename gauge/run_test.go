package gauge_test

import (
	"math/rand"
	"slices"
	"testing"

	"gauge/api"
	"gauge/gauge"
)

func mustRun(t *testing.T, packet []byte, verdict int, list ...api.Insn) {
	t.Helper()
	if got, code := gauge.Run(filterOf(list...), packet); got != verdict || code != api.OK {
		t.Errorf("P5: Run(%+v) of %d bytes = %#x, %d, want %#x", list, len(packet), got, code, verdict)
	}
}

// Ends that tell what A or X is.
var (
	giveA = []api.Insn{op(0x16, 0)}
	giveX = []api.Insn{op(0x87, 0), op(0x16, 0)}
)

// row puts instructions behind each other.
func row(lists ...[]api.Insn) []api.Insn { return slices.Concat(lists...) }

// one is a row of one instruction, or of a few.
func one(list ...api.Insn) []api.Insn { return list }

// yesOrNo is a question behind which the verdict is 1 or 2.
func yesOrNo(code, k int) []api.Insn {
	return one(api.Insn{Code: code, Jt: 0, Jf: 1, K: k}, op(0x06, 1), op(0x06, 2))
}

type runCase struct {
	list    []api.Insn
	verdict int
}

var ninePacket = []byte{0x45, 0xff, 0x01, 0x02, 0x80, 0x00, 0x00, 0x07, 0x3c}

// runCases has at least one case for each instruction, of ninePacket.
func runCases() []runCase {
	return []runCase{
		{row(one(op(0x20, 0)), giveA), 0x45ff0102}, {row(one(op(0x20, 5)), giveA), 0x0000073c},
		{row(one(op(0x28, 1)), giveA), 0xff01}, {row(one(op(0x30, 4)), giveA), 0x80},
		{row(one(op(0x01, 1), op(0x40, 2)), giveA), 0x02800000},
		{row(one(op(0x01, 3), op(0x48, 4)), giveA), 0x073c},
		{row(one(op(0x01, 8), op(0x50, 0)), giveA), 0x3c},
		{row(one(op(0x00, highest)), giveA), highest}, {row(one(op(0x01, highest)), giveX), highest},
		{row(one(op(0x80, 5)), giveA), 9}, {row(one(op(0x81, 5)), giveX), 9},
		{row(one(op(0x00, 7), op(0x02, 3), op(0x00, 8), op(0x60, 3)), giveA), 7},
		{row(one(op(0x00, 7), op(0x02, 3), op(0x00, 8), op(0x61, 3)), giveX), 7},
		{row(one(op(0x01, 7), op(0x03, 3), op(0x01, 8), op(0x61, 3)), giveX), 7},
		{row(one(op(0x01, 7), op(0x03, 3), op(0x01, 8), op(0x60, 3)), giveA), 7},
		{row(one(op(0x00, 7), op(0x02, 3), op(0x01, 8), op(0x60, 3)), giveX), 8},
		{row(one(op(0xb1, 0)), giveX), 20}, {row(one(op(0xb1, 1)), giveX), 60}, {row(one(op(0xb1, 4)), giveX), 0},
		{row(one(op(0x00, 5), op(0xb1, 0)), giveA), 5},
		{row(one(op(0x00, 6), op(0x07, 0)), giveX), 6}, {row(one(op(0x00, 6), op(0x07, 0)), giveA), 6},
		{row(one(op(0x01, 6), op(0x00, 1)), giveX), 6},
		{row(one(op(0x00, 6), op(0x04, 7)), giveA), 13}, {row(one(op(0x00, highest), op(0x04, 3)), giveA), 2},
		{row(one(op(0x00, 6), op(0x14, 7)), giveA), highest}, {row(one(op(0x00, 7), op(0x14, 6)), giveA), 1},
		{row(one(op(0x00, 6), op(0x24, 7)), giveA), 42}, {row(one(op(0x00, highest), op(0x24, highest)), giveA), 1},
		{row(one(op(0x00, 44), op(0x34, 7)), giveA), 6}, {row(one(op(0x00, highest), op(0x34, 2)), giveA), 1<<31 - 1},
		{row(one(op(0x00, 44), op(0x94, 7)), giveA), 2}, {row(one(op(0x00, highest), op(0x94, 1<<31)), giveA), 1<<31 - 1},
		{row(one(op(0x00, 12), op(0x44, 10)), giveA), 14}, {row(one(op(0x00, 12), op(0x54, 10)), giveA), 8},
		{row(one(op(0x00, 12), op(0xa4, 10)), giveA), 6},
		{row(one(op(0x00, 3), op(0x64, 31)), giveA), 1 << 31}, {row(one(op(0x00, 3), op(0x64, 0)), giveA), 3},
		{row(one(op(0x00, highest), op(0x74, 31)), giveA), 1}, {row(one(op(0x00, 3), op(0x74, 1)), giveA), 1},
		{row(one(op(0x00, 6), op(0x01, 7), op(0x0c, 99)), giveA), 13},
		{row(one(op(0x00, 6), op(0x01, 7), op(0x1c, 99)), giveA), highest},
		{row(one(op(0x00, 6), op(0x01, 7), op(0x2c, 99)), giveA), 42},
		{row(one(op(0x00, 44), op(0x01, 7), op(0x3c, 99)), giveA), 6},
		{row(one(op(0x00, 44), op(0x01, 7), op(0x9c, 99)), giveA), 2},
		{row(one(op(0x00, 12), op(0x01, 10), op(0x4c, 99)), giveA), 14},
		{row(one(op(0x00, 12), op(0x01, 10), op(0x5c, 99)), giveA), 8},
		{row(one(op(0x00, 12), op(0x01, 10), op(0xac, 99)), giveA), 6},
		{row(one(op(0x00, 3), op(0x01, 31), op(0x6c, 99)), giveA), 1 << 31},
		{row(one(op(0x00, highest), op(0x01, 28), op(0x7c, 99)), giveA), 15},
		{row(one(op(0x00, 6), op(0x01, 7), op(0x0c, 99)), giveX), 7}, // X stays
		{row(one(op(0x00, 1), op(0x84, 99)), giveA), highest}, {row(one(op(0x84, 99)), giveA), 0},
		{row(one(op(0x00, 1<<31), op(0x84, 99)), giveA), 1 << 31},
		{one(op(0x05, 0), op(0x06, 1), op(0x06, 2)), 1}, {one(op(0x05, 1), op(0x06, 1), op(0x06, 2)), 2},
		{row(one(op(0x00, 5)), yesOrNo(0x15, 5)), 1}, {row(one(op(0x00, 5)), yesOrNo(0x15, 6)), 2},
		{row(one(op(0x00, 5)), yesOrNo(0x25, 4)), 1}, {row(one(op(0x00, 5)), yesOrNo(0x25, 5)), 2},
		{row(one(op(0x00, 5)), yesOrNo(0x35, 5)), 1}, {row(one(op(0x00, 5)), yesOrNo(0x35, 6)), 2},
		{row(one(op(0x00, 5)), yesOrNo(0x45, 12)), 1}, {row(one(op(0x00, 5)), yesOrNo(0x45, 10)), 2},
		{row(one(op(0x00, 5), op(0x01, 5)), yesOrNo(0x1d, 6)), 1}, {row(one(op(0x00, 5), op(0x01, 6)), yesOrNo(0x1d, 5)), 2},
		{row(one(op(0x00, 5), op(0x01, 4)), yesOrNo(0x2d, 6)), 1}, {row(one(op(0x00, 5), op(0x01, 5)), yesOrNo(0x2d, 4)), 2},
		{row(one(op(0x00, 5), op(0x01, 5)), yesOrNo(0x3d, 6)), 1}, {row(one(op(0x00, 5), op(0x01, 6)), yesOrNo(0x3d, 5)), 2},
		{row(one(op(0x00, 5), op(0x01, 12)), yesOrNo(0x4d, 10)), 1}, {row(one(op(0x00, 5), op(0x01, 10)), yesOrNo(0x4d, 12)), 2},
		{one(op(0x06, highest)), highest}, {one(op(0x06, 0)), 0}, {one(op(0x00, 7), op(0x06, 5)), 5},
		{one(op(0x00, 7), op(0x16, 5)), 7}, {one(op(0x16, 5)), 0}, {giveX, 0},
	}
}

func TestP5EveryInstruction(t *testing.T) {
	left := slices.Clone(codes)
	for _, c := range runCases() {
		mustRun(t, ninePacket, c.verdict, c.list...)
		for _, in := range c.list {
			left = slices.DeleteFunc(left, func(code int) bool { return code == in.Code })
		}
	}
	if len(left) > 0 {
		t.Errorf("no case for the codes %#x", left)
	}
}

// speaks tells of which numbers an instruction speaks: of Jt and Jf, of K.
func speaks(code int) (places, k bool) {
	switch code {
	case 0x80, 0x81, 0x07, 0x87, 0x84, 0x16,
		0x0c, 0x1c, 0x2c, 0x3c, 0x9c, 0x4c, 0x5c, 0xac, 0x6c, 0x7c:
		return false, false
	case 0x15, 0x25, 0x35, 0x45:
		return true, true
	case 0x1d, 0x2d, 0x3d, 0x4d:
		return true, false
	}
	return false, true
}

func TestP5WhatDoesNotMatter(t *testing.T) {
	for _, c := range runCases() {
		for _, other := range []int{0, 1, 255, highest} {
			list := slices.Clone(c.list)
			for i := range list {
				places, k := speaks(list[i].Code)
				if !places {
					list[i].Jt, list[i].Jf = other&255, other>>1&255
				}
				if !k {
					list[i].K = other
				}
			}
			mustRun(t, ninePacket, c.verdict, list...)
		}
	}
}

// edges are words at which something may wrap round or be cut off.
var edges = []int{0, 1, 2, 3, 7, 30, 31, 32, 33, 63, 64, 255, 256, 65535, 65536, 1<<31 - 1, 1 << 31, 1<<31 + 1, highest - 1, highest}

// reckoned tells what the operator (by its number in code) makes of two words; -1 where nothing comes of it.
func reckoned(o, x, y int) int {
	if (o == 3 || o == 4) && y == 0 {
		return -1
	}
	if o >= 8 && y > 31 {
		return 0
	}
	switch o {
	case 0:
		return (x + y) & highest
	case 1:
		return (x - y + 1<<32) & highest
	case 2:
		return int(uint64(x) * uint64(y) % (1 << 32))
	case 3:
		return x / y
	case 4:
		return x - x/y*y
	case 5:
		return x + y - x&y
	case 6:
		return x & y
	case 7:
		return x + y - 2*(x&y)
	case 8:
		return x << y & highest
	}
	return x >> y
}

// Codes of operators and questions, with K and with X, in the order in which code numbers them.
var (
	byK  = []int{0x04, 0x14, 0x24, 0x34, 0x94, 0x44, 0x54, 0xa4, 0x64, 0x74}
	byX  = []int{0x0c, 0x1c, 0x2c, 0x3c, 0x9c, 0x4c, 0x5c, 0xac, 0x6c, 0x7c}
	askK = []int{0x15, 0x25, 0x35, 0x45}
	askX = []int{0x1d, 0x2d, 0x3d, 0x4d}
)

func TestP5Operators(t *testing.T) {
	for o := range byK {
		for _, x := range edges {
			for _, y := range edges {
				want := reckoned(o, x, y)
				// It returns 0 at once, so the return of 5 behind it is not reached.
				if want < 0 {
					mustRun(t, nil, 0, op(0x00, x), op(0x01, y), op(byX[o], 1), op(0x06, 5))
					continue
				}
				mustRun(t, nil, want, op(0x00, x), op(0x01, y), op(byX[o], 1), op(0x16, 0))
				if o < 8 || y < 32 {
					mustRun(t, nil, want, op(0x00, x), op(byK[o], y), op(0x16, 0))
				}
			}
		}
	}
	for _, x := range edges {
		mustRun(t, nil, (1<<32-x)&highest, op(0x00, x), op(0x84, 0), op(0x16, 0))
	}
}

// holds tells the answer to a question (by its number in code).
func holds(c, x, y int) bool {
	return []bool{x == y, x > y, x >= y, x&y != 0}[c]
}

func TestP5Questions(t *testing.T) {
	for c := range askK {
		for _, x := range edges {
			for _, y := range edges {
				want := 2
				if holds(c, x, y) {
					want = 1
				}
				mustRun(t, nil, want, row(one(op(0x00, x), op(0x01, 77)), yesOrNo(askK[c], y))...)
				mustRun(t, nil, want, row(one(op(0x00, x), op(0x01, y)), yesOrNo(askX[c], 77))...)
			}
		}
	}
}

// numbered is a filter whose first instruction jumps and of which each other one returns its place.
func numbered(first api.Insn) []api.Insn {
	list := one(first)
	for at := 1; at < api.MaxFilter; at++ {
		list = append(list, op(0x06, at))
	}
	return list
}

func TestP5Jumps(t *testing.T) {
	for d := range api.MaxFilter - 1 {
		other := api.MaxFilter - 2 - d
		mustRun(t, nil, 1+d, numbered(api.Insn{Code: 0x05, Jt: other, Jf: other, K: d})...)
		// A is 0, and so is X: equal and at least, not above and no bit in common.
		for c, code := range askK {
			yes, no := api.Insn{Jt: d, Jf: other}, api.Insn{Jt: other, Jf: d}
			in := []api.Insn{yes, no, yes, no}[c]
			in.Code = code
			mustRun(t, nil, 1+d, numbered(in)...)
			in.Code, in.K = askX[c], highest
			mustRun(t, nil, 1+d, numbered(in)...)
		}
	}
}

// packetOf is a packet of n bytes, none of them 0.
func packetOf(n int) []byte {
	b := make([]byte, n)
	for i := range b {
		b[i] = byte(1 + i%251)
	}
	return b
}

// loaded tells the bytes of a packet from a place on as a number; -1 if they are not all there.
func loaded(packet []byte, from, size int) int {
	if from+size > len(packet) {
		return -1
	}
	n := 0
	for _, b := range packet[from : from+size] {
		n = 256*n + int(b)
	}
	return n
}

func TestP5Loads(t *testing.T) {
	atK := []api.Insn{op(0x20, 4), op(0x28, 2), op(0x30, 1)} // K is the number of bytes here
	for _, n := range []int{0, 1, 2, 3, 4, 5, 6, 70, api.MaxPacket} {
		packet := packetOf(n)
		for _, in := range atK {
			for from := max(0, n-9); from < n+5; from++ {
				mustLoad(t, packet, loaded(packet, from, in.K), op(in.Code, from))
				for _, x := range []int{0, 1, from / 2, from} {
					if x <= from {
						mustLoad(t, packet, loaded(packet, from, in.K), op(0x01, x), op(in.Code+0x20, from-x))
					}
				}
			}
		}
	}
}

// mustLoad: A is then the word, or, if it is below 0, the filter has returned 0.
func mustLoad(t *testing.T, packet []byte, want int, list ...api.Insn) {
	t.Helper()
	if want < 0 {
		mustRun(t, packet, 0, row(list, one(op(0x06, 5)))...)
		return
	}
	mustRun(t, packet, want, row(list, giveA)...)
}

// No sum of a place wraps round.
func TestP5LoadsFarAway(t *testing.T) {
	packet := packetOf(api.MaxPacket)
	for _, code := range []int{0x20, 0x28, 0x30, 0xb1} {
		for _, k := range []int{api.MaxPacket, 1 << 16, 1 << 31, highest - 3, highest - 1, highest} {
			mustLoad(t, packet, -1, op(code, k))
		}
	}
	for _, code := range []int{0x40, 0x48, 0x50} {
		for _, k := range []int{1, 2, 5, 1 << 31, highest - 1, highest} {
			for _, x := range []int{1<<32 - k, highest} {
				mustLoad(t, packet, -1, op(0x01, x), op(code, k))
			}
		}
	}
}

func TestP5HeaderLength(t *testing.T) {
	for b := range 256 {
		mustRun(t, []byte{0xff, byte(b)}, 4*(b%16), row(one(op(0xb1, 1)), giveX)...)
	}
	for _, n := range []int{0, 1, 2, api.MaxPacket} {
		mustLoad(t, packetOf(n), -1, op(0xb1, n))
		mustLoad(t, packetOf(n), -1, op(0x00, 7), op(0xb1, highest))
	}
}

func TestP5Cells(t *testing.T) {
	for _, write := range []int{0x02, 0x03} {
		var list []api.Insn
		for n := range api.Cells {
			list = append(list, op(0x00, 100+n), op(0x01, 200+n), op(write, n))
		}
		for n := range api.Cells {
			want := 100*(write-0x01) + n
			mustRun(t, nil, want, row(list, one(op(0x60, n)), giveA)...)
			mustRun(t, nil, want, row(list, one(op(0x61, n)), giveX)...)
		}
	}
}

func TestP5Errors(t *testing.T) {
	much := packetOf(api.MaxPacket + 1)
	for _, c := range []struct {
		filter []byte
		code   api.Errno
	}{
		{nil, api.ErrSize}, {make([]byte, 7), api.ErrSize}, {make([]byte, 8*api.MaxFilter+8), api.ErrSize},
		{ended(op(0xffff, 0)), api.ErrCode}, {ended(op(0x34, 0)), api.ErrZero}, {ended(op(0x94, 0)), api.ErrZero},
		{ended(op(0x64, 32)), api.ErrShift}, {ended(op(0x74, 32)), api.ErrShift}, {ended(op(0x02, 16)), api.ErrCell},
		{filterOf(op(0x05, 0)), api.ErrJump}, {filterOf(op(0x00, 0)), api.ErrEnd}, {ended(op(0x60, 0)), api.ErrFirst},
		{filterOf(op(0x06, 7), op(0x60, 16), op(0x06, 7)), api.ErrCell}, // where no way leads, too
	} {
		for _, packet := range [][]byte{nil, ninePacket, much} {
			if verdict, code := gauge.Run(c.filter, packet); verdict != 0 || code != c.code {
				t.Errorf("P5: Run(% x) of %d bytes = %d, %d, want %d", c.filter, len(packet), verdict, code, c.code)
			}
		}
	}
	for _, packet := range [][]byte{much, make([]byte, 1<<20)} {
		if verdict, code := gauge.Run(filterOf(op(0x06, 7)), packet); verdict != 0 || code != api.ErrArg {
			t.Errorf("P5: Run of %d bytes = %d, %d", len(packet), verdict, code)
		}
	}
}

func TestP5Packets(t *testing.T) {
	for _, n := range []int{0, 1, api.MaxPacket - 1, api.MaxPacket} {
		mustRun(t, packetOf(n), highest, op(0x06, highest))
		mustRun(t, packetOf(n), n, op(0x80, 0), op(0x16, 0))
		mustRun(t, packetOf(n), n, op(0x81, 0), op(0x87, 0), op(0x16, 0))
	}
	mustRun(t, packetOf(api.MaxPacket), int(packetOf(api.MaxPacket)[api.MaxPacket-1]), op(0x30, api.MaxPacket-1), op(0x16, 0))
	mustRun(t, nil, 0, op(0x30, 0), op(0x06, 5))
	mustRun(t, []byte{}, 0, op(0xb1, 0), op(0x06, 5))
}

// The longest filter goes through all of its instructions.
func TestP5LongFilter(t *testing.T) {
	list := slices.Repeat(one(op(0x04, 3)), api.MaxFilter-1)
	mustRun(t, nil, 3*(api.MaxFilter-1), row(list, giveA)...)
}

func TestP5Examples(t *testing.T) {
	for _, n := range []int{0, 9, 2000} {
		mustRun(t, packetOf(n), 65535, op(0x06, 65535))
	}
	list := one(op(0x28, 12), api.Insn{Code: 0x15, Jf: 1, K: 0x0800}, op(0x06, 96), op(0x06, 0))
	for n := range 40 {
		packet := packetOf(n)
		mustRun(t, packet, 0, list...)
		if n > 13 {
			packet[12], packet[13] = 8, 0
			mustRun(t, packet, 96, list...)
		}
	}
}

// randomProgram: instructions that pass the check, most of them such as reckon, load and ask.
func randomProgram(r *rand.Rand) []api.Insn {
	n := 2 + r.Intn(20)
	list := make([]api.Insn, n)
	for i := range list {
		in := api.Insn{Code: codes[r.Intn(len(codes)-2)], K: edges[r.Intn(len(edges))]}
		switch room := n - 2 - i; {
		case in.Code == 0x34 || in.Code == 0x94:
			in.K = 1 + r.Intn(9)
		case in.Code == 0x64 || in.Code == 0x74:
			in.K = r.Intn(32)
		case in.Code == 0x60 || in.Code == 0x61 || in.Code == 0x02 || in.Code == 0x03:
			in.K = r.Intn(2)
		case in.Code < 0x60 && in.Code > 0x1f && in.Code%8 == 0 || in.Code == 0xb1:
			in.K = r.Intn(12)
		case room < 0:
		case in.Code == 0x05:
			in.K = r.Intn(min(room, 3) + 1)
		case in.Code&7 == 5:
			in.Jt, in.Jf = r.Intn(min(room, 3)+1), r.Intn(min(room, 3)+1)
		}
		list[i] = in
	}
	list[0], list[1] = op(0x02, 0), op(0x03, 1) // both cells are written
	list[n-1] = op(0x06+0x10*min(1, r.Intn(5)), 3)
	return list
}

// slow is a filter at work, done in another way than the program does it: by plain numbers, with -1 for what there is not.
type slow struct {
	packet []byte
	a, x   int
	cells  [api.Cells]int
	at     int
}

func verdictOf(list []api.Insn, packet []byte) int {
	s := slow{packet: packet}
	for {
		in := list[s.at]
		s.at++
		switch in.Code {
		case 0x06:
			return in.K
		case 0x16:
			return s.a
		}
		s.move(in)
		s.load(in)
		s.reckon(in)
		s.jump(in)
		if s.a < 0 || s.x < 0 {
			return 0
		}
	}
}

func (s *slow) move(in api.Insn) {
	switch in.Code {
	case 0x00:
		s.a = in.K
	case 0x01:
		s.x = in.K
	case 0x60:
		s.a = s.cells[in.K]
	case 0x61:
		s.x = s.cells[in.K]
	case 0x80:
		s.a = len(s.packet)
	case 0x81:
		s.x = len(s.packet)
	case 0x02:
		s.cells[in.K] = s.a
	case 0x03:
		s.cells[in.K] = s.x
	case 0x07:
		s.x = s.a
	case 0x87:
		s.a = s.x
	}
}

func (s *slow) load(in api.Insn) {
	for i, size := range []int{4, 2, 1} {
		switch in.Code {
		case 0x20 + 8*i:
			s.a = loaded(s.packet, in.K, size)
		case 0x40 + 8*i:
			s.a = loaded(s.packet, s.x+in.K, size)
		}
	}
	if in.Code == 0xb1 {
		if s.x = loaded(s.packet, in.K, 1); s.x >= 0 {
			s.x = s.x % 16 * 4
		}
	}
}

func (s *slow) reckon(in api.Insn) {
	for o := range byK {
		switch in.Code {
		case byK[o]:
			s.a = reckoned(o, s.a, in.K)
		case byX[o]:
			s.a = reckoned(o, s.a, s.x)
		}
	}
	if in.Code == 0x84 {
		s.a = reckoned(1, 0, s.a)
	}
}

func (s *slow) jump(in api.Insn) {
	if in.Code == 0x05 {
		s.at += in.K
	}
	for c := range askK {
		y := in.K
		switch in.Code {
		case askX[c]:
			y = s.x
		case askK[c]:
		default:
			continue
		}
		if holds(c, s.a, y) {
			s.at += in.Jt
		} else {
			s.at += in.Jf
		}
	}
}

func TestP5RandomPrograms(t *testing.T) {
	r := source()
	runs, some := 0, 0
	for range 30000 {
		list := randomProgram(r)
		if code, _ := gauge.Check(filterOf(list...)); code != api.OK {
			continue
		}
		packet := packetOf(r.Intn(14))
		r.Read(packet)
		want := verdictOf(list, packet)
		mustRun(t, packet, want, list...)
		runs++
		if want != 0 {
			some++
		}
	}
	if runs < 20000 || some < 5000 {
		t.Errorf("only %d filters ran, only %d of them with a verdict that is not 0", runs, some)
	}
}
