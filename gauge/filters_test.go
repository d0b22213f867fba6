package gauge_test

import (
	"bytes"
	"errors"
	"slices"
	"testing"

	"gauge/api"
	"gauge/gauge"
)

func TestP3Decode(t *testing.T) {
	b := []byte{0x15, 0x00, 0x00, 0x01, 0x00, 0x08, 0x00, 0x00, 0x34, 0x12, 0xfe, 0xff, 0x78, 0x56, 0x34, 0xf2}
	want := []api.Insn{{Code: 0x15, Jt: 0, Jf: 1, K: 0x0800}, {Code: 0x1234, Jt: 254, Jf: 255, K: 0xf2345678}}
	if list, code := gauge.Decode(b); code != api.OK || !slices.Equal(list, want) {
		t.Errorf("P3: Decode = %+v, %d", list, code)
	}
}

func TestP3DecodeSize(t *testing.T) {
	for n := range 8*api.MaxFilter + 100 {
		list, code := gauge.Decode(make([]byte, n))
		if n > 0 && n%8 == 0 && n <= 8*api.MaxFilter {
			if code != api.OK || len(list) != n/8 {
				t.Errorf("P3: Decode of %d bytes: %d instructions, %d", n, len(list), code)
			}
		} else if code != api.ErrSize || list != nil {
			t.Errorf("P3: Decode of %d bytes: %d instructions, %d", n, len(list), code)
		}
	}
}

func TestP3Encode(t *testing.T) {
	for _, c := range []struct {
		list []api.Insn
		want []byte
	}{
		{nil, nil},
		{[]api.Insn{{Code: 0x1234, Jt: 254, Jf: 255, K: 0xf2345678}, {Code: 6}}, []byte{0x34, 0x12, 0xfe, 0xff, 0x78, 0x56, 0x34, 0xf2, 6, 0, 0, 0, 0, 0, 0, 0}},
		{[]api.Insn{{Code: 0x10006, Jt: 256, Jf: 511, K: 1 << 32}}, []byte{6, 0, 0, 255, 0, 0, 0, 0}},
		{[]api.Insn{{Code: -1, Jt: -1, Jf: -256, K: -2}}, []byte{0xff, 0xff, 0xff, 0, 0xfe, 0xff, 0xff, 0xff}},
		{[]api.Insn{{Code: -1 << 63, Jt: 1<<63 - 1, Jf: -1 << 63, K: 1<<63 - 1}}, []byte{0, 0, 0xff, 0, 0xff, 0xff, 0xff, 0xff}},
	} {
		if b := gauge.Encode(c.list); !bytes.Equal(b, c.want) {
			t.Errorf("P3: Encode(%+v) = % x, want % x", c.list, b, c.want)
		}
	}
	if b := gauge.Encode(make([]api.Insn, 2*api.MaxFilter)); len(b) != 16*api.MaxFilter {
		t.Errorf("P3: Encode of more instructions than a filter may have: %d bytes", len(b))
	}
}

func TestP3ThereAndBack(t *testing.T) {
	r := source()
	for range 500 {
		b := randomBytes(r)
		b = b[:len(b)/8*8]
		if list, code := gauge.Decode(b); code == api.OK && !bytes.Equal(gauge.Encode(list), b) {
			t.Fatalf("P3: Encode of Decode of % x is another filter", b)
		}
	}
	for range 500 {
		list := make([]api.Insn, 1+r.Intn(api.MaxFilter))
		for i := range list {
			list[i] = api.Insn{Code: r.Intn(1 << 16), Jt: r.Intn(256), Jf: r.Intn(256), K: r.Intn(1 << 32)}
		}
		if back, code := gauge.Decode(gauge.Encode(list)); code != api.OK || !slices.Equal(back, list) {
			t.Fatalf("P3: Decode of Encode of %v are other instructions: %d", list, code)
		}
	}
}

func TestP4Size(t *testing.T) {
	for _, n := range []int{0, 1, 7, 9, 8*api.MaxFilter - 1, 8*api.MaxFilter + 1, 8*api.MaxFilter + 8} {
		b := bytes.Repeat(filterOf(op(0x06, 0)), n/8+1)[:n]
		mustCheck(t, "P4", b, api.ErrSize, 0)
	}
	mustCheck(t, "P4", bytes.Repeat(filterOf(op(0x06, 0)), api.MaxFilter), api.OK, 0)
}

func TestP4Codes(t *testing.T) {
	for code := range 1 << 16 {
		// K 1 is a divisor, a shift and a cell, and two returns are enough behind a jump; cell 1 is written.
		filter := ended(op(0x02, 1), api.Insn{Code: code, K: 1}, op(0x06, 0))
		if slices.Contains(codes, code) {
			mustCheck(t, "P4", filter, api.OK, 0)
		} else {
			mustCheck(t, "P4", filter, api.ErrCode, 1)
		}
	}
}

// TestP4Numbers holds what K, Jt and Jf may be against what each code says of them.
func TestP4Numbers(t *testing.T) {
	for _, code := range codes {
		for _, k := range []int{0, 1, 15, 16, 31, 32, 33, 255, 256, 1 << 31, highest} {
			want := api.OK
			switch code {
			case 0x34, 0x94:
				want = errorIf(k == 0, api.ErrZero)
			case 0x64, 0x74:
				want = errorIf(k > 31, api.ErrShift)
			case 0x02, 0x03:
				want = errorIf(k > 15, api.ErrCell)
			case 0x60, 0x61:
				want = errorIf(k > 15, api.ErrCell)
				if want == api.OK {
					want = api.ErrFirst
				}
			case 0x05:
				want = errorIf(k > 0, api.ErrJump)
			}
			mustCheck(t, "P4", ended(op(code, k)), want, 0)
		}
	}
}

func errorIf(wrong bool, code api.Errno) api.Errno {
	if wrong {
		return code
	}
	return api.OK
}

func TestP4Jumps(t *testing.T) {
	for _, code := range codes {
		asks := code&0xf == 0xd || code&0xf == 0x5 && code != 0x05
		reads := code == 0x60 || code == 0x61
		if reads {
			continue
		}
		for _, in := range []api.Insn{{Jt: 2}, {Jf: 2}, {Jt: 2, Jf: 2}, {Jt: 255}, {Jf: 255}, {Jt: 1, Jf: 1}, {}} {
			in.Code, in.K = code, 1
			want := errorIf(asks && max(in.Jt, in.Jf) > 1, api.ErrJump)
			mustCheck(t, "P4", ended(in, op(0x00, 0)), want, 0)
		}
	}
	for n := 1; n < api.MaxFilter; n++ {
		list := make([]api.Insn, n)
		list[0] = op(0x05, n-1)
		mustCheck(t, "P4", ended(list...), api.OK, 0)
		list[0] = op(0x05, n)
		mustCheck(t, "P4", ended(list...), api.ErrJump, 0)
		list[0] = ask(0x3d, 0, n-1)
		mustCheck(t, "P4", ended(list...), api.OK, 0)
		list[0] = ask(0x3d, n, 0)
		mustCheck(t, "P4", ended(list...), api.ErrJump, 0)
	}
}

func TestP4WhichIsFirst(t *testing.T) {
	for _, c := range []struct {
		filter []byte
		code   api.Errno
		at     int
	}{
		{ended(op(0x34, 0), op(0xffff, 0)), api.ErrZero, 0},
		{ended(op(0x00, 0), op(0x05, 99), op(0x74, 32)), api.ErrJump, 1},
		{ended(op(0x60, 0), op(0x60, 16)), api.ErrCell, 1},
		{ended(op(0x60, 0), op(0x05, 0), op(0x08, 0)), api.ErrCode, 2},
		{ended(op(0x06, 0), op(0x94, 0)), api.ErrZero, 1}, // wrong where no way leads, too
		{filterOf(op(0x60, 0), op(0x02, 0)), api.ErrEnd, 1},
		{filterOf(op(0x06, 0), op(0x02, 16)), api.ErrCell, 1},
		{filterOf(op(0x06, 0), op(0x0e, 0)), api.ErrCode, 1},
		{filterOf(op(0x06, 0), op(0x05, 0)), api.ErrJump, 1},
		{ended(op(0x61, 4), op(0x60, 5)), api.ErrFirst, 0},
	} {
		mustCheck(t, "P4", c.filter, c.code, c.at)
	}
}

func TestP4End(t *testing.T) {
	for _, code := range codes {
		in := op(code, 1)
		switch {
		case code == 0x06 || code == 0x16:
			mustCheck(t, "P4", filterOf(op(0x00, 0), in), api.OK, 0)
		case code&0xf == 0x5 || code&0xf == 0xd:
			mustCheck(t, "P4", filterOf(op(0x00, 0), in), api.ErrJump, 1)
		default:
			mustCheck(t, "P4", filterOf(op(0x00, 0), in), api.ErrEnd, 1)
		}
	}
}

func TestP4Cells(t *testing.T) {
	for n := range api.Cells {
		for _, read := range []int{0x60, 0x61} {
			for _, write := range []int{0x02, 0x03} {
				mustCheck(t, "P4", ended(op(write, n), op(read, n)), api.OK, 0)
				mustCheck(t, "P4", ended(op(write, (n+1)%api.Cells), op(read, n)), api.ErrFirst, 1)
				mustCheck(t, "P4", ended(op(read, n), op(write, n)), api.ErrFirst, 0)
			}
		}
	}
	for _, c := range []struct {
		filter []byte
		code   api.Errno
		at     int
	}{
		// written on one of two ways, then on both, then on both in different cells
		{ended(ask(0x15, 0, 1), op(0x02, 7), op(0x60, 7)), api.ErrFirst, 2},
		{ended(ask(0x15, 1, 0), op(0x02, 7), op(0x60, 7)), api.ErrFirst, 2},
		{ended(ask(0x25, 0, 2), op(0x02, 7), op(0x05, 1), op(0x03, 7), op(0x60, 7)), api.OK, 0},
		{ended(ask(0x25, 0, 2), op(0x02, 7), op(0x05, 1), op(0x03, 8), op(0x60, 7)), api.ErrFirst, 4},
		// the way without it returns ahead of the reading
		{ended(ask(0x4d, 1, 0), op(0x16, 0), op(0x02, 7), op(0x61, 7)), api.OK, 0},
		// no way leads there, be it from one that is not reached itself
		{ended(op(0x06, 0), op(0x60, 7)), api.OK, 0},
		{ended(op(0x05, 2), op(0x60, 7), op(0x05, 0)), api.OK, 0},
		{ended(op(0x02, 7), op(0x05, 1), op(0x05, 0), op(0x60, 7)), api.OK, 0},
		// a question with one answer only is still one that may go either way
		{ended(op(0x00, 0), ask(0x35, 1, 0), op(0x02, 7), op(0x60, 7)), api.ErrFirst, 3},
		// a question that goes to one place only
		{ended(ask(0x15, 1, 1), op(0x60, 7), op(0x02, 7), op(0x60, 7)), api.OK, 0},
		// what is written stays written
		{ended(op(0x02, 0), op(0x03, 1), ask(0x15, 0, 1), op(0x02, 2), op(0x60, 0), op(0x61, 1)), api.OK, 0},
	} {
		mustCheck(t, "P4", c.filter, c.code, c.at)
	}
}

func TestP4Examples(t *testing.T) {
	mustCheck(t, "P4", []byte{6, 0, 0, 0, 0xff, 0xff, 0, 0}, api.OK, 0)
	mustCheck(t, "P4", nil, api.ErrSize, 0)
	mustCheck(t, "P4", []byte{6, 0, 0, 0, 1, 0, 0}, api.ErrSize, 0)
	mustCheck(t, "P4", filterOf(op(0x28, 12), api.Insn{Code: 0x15, Jf: 1, K: 0x0800}, op(0x06, 0x60), op(0x06, 0)), api.OK, 0)
	mustCheck(t, "P4", filterOf(op(0x00, 0)), api.ErrEnd, 0)
	mustCheck(t, "P4", []byte{5, 0, 0, 0, 0, 0, 0, 0}, api.ErrJump, 0)
	mustCheck(t, "P4", filterOf(op(0x60, 0), op(0x16, 0)), api.ErrFirst, 0)
	mustCheck(t, "P4", filterOf(op(0x02, 3), op(0x61, 3), op(0x16, 0)), api.OK, 0)
}

// mayRead tells the first place where a cell may be read ahead of being written, by going every way on its own; -1 if there is none.
func mayRead(list []api.Insn) int {
	first := -1
	var walk func(at int, written [api.Cells]bool)
	walk = func(at int, written [api.Cells]bool) {
		in := list[at]
		switch in.Code {
		case 0x06, 0x16:
			return
		case 0x05:
			walk(at+1+in.K, written)
			return
		case 0x15, 0x25, 0x35, 0x45, 0x1d, 0x2d, 0x3d, 0x4d:
			walk(at+1+in.Jt, written)
			walk(at+1+in.Jf, written)
			return
		case 0x60, 0x61:
			if !written[in.K] && (first < 0 || at < first) {
				first = at
			}
		case 0x02, 0x03:
			written[in.K] = true
		}
		walk(at+1, written)
	}
	walk(0, [api.Cells]bool{})
	return first
}

func TestP4EveryWay(t *testing.T) {
	r := source()
	met := map[api.Errno]int{}
	for range 50000 {
		list := randomFilter(r)
		code, at := gauge.Check(filterOf(list...))
		met[code]++
		if code != api.OK && code != api.ErrFirst {
			continue
		}
		if first := mayRead(list); first < 0 {
			mustCheck(t, "P4", filterOf(list...), api.OK, 0)
		} else if code != api.ErrFirst || at != first {
			t.Fatalf("P4: Check(%+v) = %d, %d, want ErrFirst, %d", list, code, at, first)
		}
	}
	for _, code := range []api.Errno{api.OK, api.ErrZero, api.ErrCell, api.ErrJump, api.ErrEnd, api.ErrFirst} {
		if met[code] < 100 {
			t.Errorf("the random filters met %d only %d times", code, met[code])
		}
	}
}

func TestP4Verify(t *testing.T) {
	r := source()
	filters := hardFilters()
	for range 5000 {
		filters = append(filters, filterOf(randomFilter(r)...))
	}
	for _, b := range filters {
		code, at := gauge.Check(b)
		err := gauge.Verify(b)
		if code == api.OK {
			if err != nil {
				t.Fatalf("P4: Verify(% x) = %v, and Check is OK", b, err)
			}
			continue
		}
		var fault *api.Fault
		if !errors.Is(err, gauge.Bad) || !errors.As(err, &fault) {
			t.Fatalf("P4: Verify(% x) = %v: no Bad or no fault in it", b, err)
		}
		if fault.Code != code || fault.At != at || !errors.Is(fault, gauge.Bad) {
			t.Fatalf("P4: Verify(% x) tells %+v, and Check %d, %d", b, fault, code, at)
		}
	}
}
