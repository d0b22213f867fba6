package gauge_test

import (
	"bytes"
	"math/rand"
	"slices"
	"testing"

	"gauge/api"
	"gauge/gauge"
)

// codes are all codes of the document, in its order.
var codes = []int{
	0x20, 0x28, 0x30, 0x40, 0x48, 0x50,
	0x00, 0x60, 0x80, 0x01, 0x61, 0x81, 0xb1,
	0x02, 0x03, 0x07, 0x87,
	0x04, 0x14, 0x24, 0x34, 0x94, 0x44, 0x54, 0xa4, 0x64, 0x74,
	0x0c, 0x1c, 0x2c, 0x3c, 0x9c, 0x4c, 0x5c, 0xac, 0x6c, 0x7c, 0x84,
	0x05, 0x15, 0x25, 0x35, 0x45, 0x1d, 0x2d, 0x3d, 0x4d,
	0x06, 0x16,
}

// highest is the highest word.
const highest = 1<<32 - 1

// op is an instruction without places to go on at.
func op(code, k int) api.Insn { return api.Insn{Code: code, K: k} }

// ask is a jump with a question.
func ask(code, jt, jf int) api.Insn { return api.Insn{Code: code, Jt: jt, Jf: jf} }

// filterOf writes bytes by hand, so that a fault of Encode does not hide one of Check.
func filterOf(list ...api.Insn) []byte {
	var b []byte
	for _, in := range list {
		b = append(b, byte(in.Code), byte(in.Code>>8), byte(in.Jt), byte(in.Jf),
			byte(in.K), byte(in.K>>8), byte(in.K>>16), byte(in.K>>24))
	}
	return b
}

// ended is a filter with a return behind the instructions.
func ended(list ...api.Insn) []byte { return filterOf(append(slices.Clone(list), op(0x06, 0))...) }

// source is the same row of numbers at each run of the tests.
func source() *rand.Rand { return rand.New(rand.NewSource(1)) }

// randomBytes: any bytes, of any number up to somewhat more than a filter may have.
func randomBytes(r *rand.Rand) []byte {
	b := make([]byte, r.Intn(8*api.MaxFilter+20))
	r.Read(b)
	return b
}

// randomFilter: a few instructions that are mostly right, with cells and jumps above all.
func randomFilter(r *rand.Rand) []api.Insn {
	common := []int{0x60, 0x61, 0x02, 0x03, 0x02, 0x03, 0x15, 0x4d, 0x15, 0x05}
	list := make([]api.Insn, 1+r.Intn(9))
	for i := range list {
		in := api.Insn{Code: common[r.Intn(len(common))], Jt: r.Intn(3), Jf: r.Intn(3), K: r.Intn(2)}
		switch r.Intn(24) {
		case 0, 1, 2:
			in.Code = codes[r.Intn(len(codes))]
		case 3:
			in.K = []int{15, 16, 31, 32, highest}[r.Intn(5)]
		case 4:
			in.Code = 0x06
		}
		list[i] = in
	}
	if r.Intn(8) > 0 {
		list[len(list)-1].Code = 0x06 + 0x10*r.Intn(2)
	}
	return list
}

// inRoom copies bytes to where other bytes stand ahead of them and behind them, and tells that room, too.
func inRoom(b []byte) (list, room []byte) {
	room = bytes.Repeat([]byte{0xa5}, len(b)+64)
	copy(room[16:], b)
	return room[16 : 16+len(b)], room
}

func mustCheck(t *testing.T, promise string, filter []byte, code api.Errno, at int) {
	t.Helper()
	if gotCode, gotAt := gauge.Check(filter); gotCode != code || gotAt != at {
		t.Errorf("%s: Check(% x) = %d, %d, want %d, %d", promise, filter, gotCode, gotAt, code, at)
	}
}
