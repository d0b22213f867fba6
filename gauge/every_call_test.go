package gauge_test

import (
	"bytes"
	"errors"
	"reflect"
	"slices"
	"testing"
	"time"

	"gauge/api"
	"gauge/gauge"
)

// hardFilters: what a careless reader of filters stumbles over.
func hardFilters() [][]byte {
	list := [][]byte{nil, {}, {6}, make([]byte, 7), make([]byte, 8*api.MaxFilter), make([]byte, 1<<20)}
	for _, k := range []int{0, 1, 15, 16, 31, 32, 254, 255, 256, 1 << 31, highest} {
		for _, code := range codes {
			in := api.Insn{Code: code, Jt: k & 255, Jf: k & 255, K: k}
			list = append(list, filterOf(in), ended(in), ended(op(0, 0), in), filterOf(op(6, 0), in))
		}
	}
	r := source()
	for range 2000 {
		list = append(list, randomBytes(r), filterOf(randomFilter(r)...))
	}
	return list
}

func TestP1NoPanic(t *testing.T) {
	for _, b := range hardFilters() {
		list, code := gauge.Decode(b)
		if (code == api.OK) != (list != nil) {
			t.Fatalf("P1: Decode of %d bytes = %v, %d", len(b), list, code)
		}
		gauge.Encode(list)
		gauge.Check(b)
		if err := gauge.Verify(b); err != nil && err.Error() == "" {
			t.Fatalf("P1: Verify(% x) tells nothing", b)
		}
	}
	gauge.Encode(make([]api.Insn, 3*api.MaxFilter))
	gauge.Encode([]api.Insn{{Code: -1 << 63, Jt: -1 << 63, Jf: 1<<63 - 1, K: -1 << 63}})
}

// The ways through this filter are more than can be gone one by one.
func TestP1ManyWaysEnd(t *testing.T) {
	list := make([]api.Insn, api.MaxFilter-2)
	for i := range list {
		list[i] = ask(0x15, i%2, (i+1)%2)
	}
	list = append(list, op(0x06, 0), op(0x06, 0))
	done := make(chan api.Errno)
	go func() {
		code, _ := gauge.Check(filterOf(list...))
		done <- code
	}()
	select {
	case code := <-done:
		if code != api.OK {
			t.Errorf("P4: Check = %d", code)
		}
	case <-time.After(30 * time.Second):
		t.Fatal("P1: Check does not end")
	}
}

func TestP1ErrorAlone(t *testing.T) {
	for _, n := range []int{0, 1, 4, 9, 8*api.MaxFilter + 8} {
		if list, code := gauge.Decode(make([]byte, n)); list != nil || code != api.ErrSize {
			t.Errorf("P1: Decode of %d bytes = %v, %d", n, list, code)
		}
	}
}

func TestP2ArgumentsStay(t *testing.T) {
	for _, b := range hardFilters() {
		filter, room := inRoom(b)
		before := bytes.Clone(room)
		gauge.Decode(filter)
		gauge.Check(filter)
		gauge.Verify(filter)
		if !bytes.Equal(room, before) {
			t.Fatalf("P2: a call wrote into % x or beside it", b)
		}
	}
	list := make([]api.Insn, 9)
	for i := range list {
		list[i] = api.Insn{Code: -i, Jt: 256 + i, Jf: -i, K: 1<<32 + i}
	}
	before := slices.Clone(list)
	gauge.Encode(list[2:4])
	if !slices.Equal(list, before) {
		t.Errorf("P2: Encode wrote into its list or beside it: %v", list)
	}
}

// spoil writes over a list and its spare room, as a caller may.
func spoil[E any](list []E, with E) {
	list = list[:cap(list)]
	for i := range list {
		list[i] = with
	}
}

func TestP2DecodeIsNew(t *testing.T) {
	want := []api.Insn{op(0x28, 12), ask(0x15, 0, 1), op(0x06, 96), op(0x06, 0)}
	filter := filterOf(want...)
	first, _ := gauge.Decode(filter)
	second, _ := gauge.Decode(filter)
	spoil(first, op(-7, -7))
	if !slices.Equal(second, want) {
		t.Errorf("P2: two answers of Decode share room: %v", second)
	}
	if third, _ := gauge.Decode(filter); !slices.Equal(third, want) {
		t.Errorf("P2: Decode = %v after an answer was written over", third)
	}
	spoil(filter, 0xff)
	if !slices.Equal(second, want) {
		t.Errorf("P2: an answer of Decode hangs on its argument: %v", second)
	}
}

func TestP2EncodeIsNew(t *testing.T) {
	list := []api.Insn{op(0x28, 12), op(0x06, highest)}
	want := filterOf(list...)
	first, second := gauge.Encode(list), gauge.Encode(list)
	spoil(first, 0xee)
	spoil(list, op(1, 1))
	if !bytes.Equal(second, want) {
		t.Errorf("P2: an answer of Encode changed: % x", second)
	}
}

func TestP2FaultIsNew(t *testing.T) {
	filter := ended(op(0x00, 0), op(0x60, 3))
	var fault *api.Fault
	errors.As(gauge.Verify(filter), &fault)
	*fault = api.Fault{At: 99, Code: api.OK}
	mustCheck(t, "P2", filter, api.ErrFirst, 1)
	if !errors.As(gauge.Verify(filter), &fault) || fault.At != 1 || fault.Code != api.ErrFirst {
		t.Errorf("P2: Verify tells %+v after a fault was written over", fault)
	}
}

// What was called ahead, and what stands beside a filter, is not seen in an answer.
func TestP2SameAnswers(t *testing.T) {
	type answer struct {
		list  []api.Insn
		bytes []byte
		code  api.Errno
		place int
	}
	ask := func(b []byte) (a answer) {
		a.list, _ = gauge.Decode(b)
		a.bytes = gauge.Encode(a.list)
		a.code, a.place = gauge.Check(b)
		return a
	}
	filters := hardFilters()
	var answers []answer
	for _, b := range filters {
		answers = append(answers, ask(b))
	}
	for i, b := range slices.Backward(filters) {
		beside, _ := inRoom(b)
		if !reflect.DeepEqual(ask(beside), answers[i]) {
			t.Fatalf("P2: another answer for % x", b)
		}
	}
}
