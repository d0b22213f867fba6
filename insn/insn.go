// Package insn turns the bytes of a filter into instructions and back, and tells of what kind an instruction is.
package insn

import "gauge/api"

// size is how many bytes an instruction has.
const size = 8

// Decode reads the instructions of a filter; it does not ask whether they make sense (P3).
func Decode(filter []byte) ([]api.Insn, api.Errno) {
	if len(filter) == 0 || len(filter)%size != 0 || len(filter) > api.MaxFilter*size {
		return nil, api.ErrSize
	}
	list := make([]api.Insn, len(filter)/size)
	for i := range list {
		list[i] = read(filter[i*size : (i+1)*size])
	}
	return list, api.OK
}

// Encode writes instructions as bytes; a number too great for its room loses its highest bits (P3).
func Encode(list []api.Insn) []byte {
	filter := make([]byte, len(list)*size)
	for i, in := range list {
		write(filter[i*size:(i+1)*size], in)
	}
	return filter
}

func read(b []byte) api.Insn {
	return api.Insn{Code: number(b[:2]), Jt: int(b[2]), Jf: int(b[3]), K: number(b[4:])}
}

func write(b []byte, in api.Insn) {
	putNumber(b[:2], in.Code)
	b[2], b[3] = byte(in.Jt), byte(in.Jf)
	putNumber(b[4:], in.K)
}

// number reads all of b as one number, the lowest byte first.
func number(b []byte) int {
	n := 0
	for i, x := range b {
		n |= int(x) << (8 * i)
	}
	return n
}

// putNumber fills b with as many of the lowest bits of n as there is room for, the lowest byte first.
func putNumber(b []byte, n int) {
	for i := range b {
		b[i] = byte(n >> (8 * i))
	}
}
