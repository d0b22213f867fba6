package gauge_test

import (
	"bytes"
	"errors"
	"reflect"
	"slices"
	"testing"
	"time"

	"gauge/api"
	"gauge/gauge"
)

// hardFilters: what a careless reader of filters stumbles over.
func hardFilters() [][]byte {
	list := [][]byte{nil, {}, {6}, make([]byte, 7), make([]byte, 8*api.MaxFilter), make([]byte, 1<<20)}
	for _, k := range []int{0, 1, 15, 16, 31, 32, 254, 255, 256, 1 << 31, highest} {
		for _, code := range codes {
			in := api.Insn{Code: code, Jt: k & 255, Jf: k & 255, K: k}
			list = append(list, filterOf(in), ended(in), ended(op(0, 0), in), filterOf(op(6, 0), in))
		}
	}
	r := source()
	for range 2000 {
		list = append(list, randomBytes(r), filterOf(randomFilter(r)...))
	}
	return list
}

// hardCode: what a careless machine stumbles over.
func hardCode() [][]byte {
	list := [][]byte{nil, {}, make([]byte, 1<<20), bytes.Repeat(raw(6), 1<<20), bytes.Repeat(raw(7, 0, 0), 1<<18), bytes.Repeat(raw(7, 255, 255), 1<<18)}
	for first := range 256 {
		for _, n := range []byte{0, 1, 4, 9, 10, 17, 18, 255} {
			piece := raw(byte(first), n, n, n, n)
			list = append(list, piece, piece[:2], all(pushes(2), piece), all(pushes(8), piece, raw(9)))
		}
	}
	r := source()
	for range 2000 {
		list = append(list, randomBytes(r), randomCode(r))
	}
	return list
}

// somePackets: of lengths at which something changes.
func somePackets() [][]byte {
	return [][]byte{nil, {}, packetOf(1), packetOf(40), packetOf(api.MaxPacket), packetOf(api.MaxPacket + 1)}
}

func TestP1NoPanic(t *testing.T) {
	for _, b := range hardFilters() {
		list, code := gauge.Decode(b)
		if (code == api.OK) != (list != nil) {
			t.Fatalf("P1: Decode of %d bytes = %v, %d", len(b), list, code)
		}
		gauge.Encode(list)
		gauge.Check(b)
		if err := gauge.Verify(b); err != nil && err.Error() == "" {
			t.Fatalf("P1: Verify(% x) tells nothing", b)
		}
		gauge.Compile(b)
		for _, packet := range somePackets() {
			gauge.Run(b, packet)
		}
	}
	for _, code := range hardCode() {
		for _, packet := range somePackets() {
			gauge.Exec(code, packet)
		}
	}
	gauge.Encode(make([]api.Insn, 3*api.MaxFilter))
	gauge.Encode([]api.Insn{{Code: -1 << 63, Jt: -1 << 63, Jf: 1<<63 - 1, K: -1 << 63}})
}

// The ways through this filter are more than can be gone one by one.
func TestP1ManyWaysEnd(t *testing.T) {
	list := make([]api.Insn, api.MaxFilter-2)
	for i := range list {
		list[i] = ask(0x15, i%2, (i+1)%2)
	}
	list = append(list, op(0x06, 0), op(0x06, 0))
	done := make(chan api.Errno)
	go func() {
		code, _ := gauge.Check(filterOf(list...))
		done <- code
		_, code = gauge.Compile(filterOf(list...))
		done <- code
	}()
	for _, call := range []string{"Check", "Compile"} {
		select {
		case code := <-done:
			if code != api.OK {
				t.Errorf("P4: %s = %d", call, code)
			}
		case <-time.After(30 * time.Second):
			t.Fatalf("P1: %s does not end", call)
		}
	}
}

func TestP1ErrorAlone(t *testing.T) {
	for _, n := range []int{0, 1, 4, 9, 8*api.MaxFilter + 8} {
		if list, code := gauge.Decode(make([]byte, n)); list != nil || code != api.ErrSize {
			t.Errorf("P1: Decode of %d bytes = %v, %d", n, list, code)
		}
	}
	for _, b := range hardFilters() {
		if made, code := gauge.Compile(b); code != api.OK && made != nil {
			t.Fatalf("P1: Compile(% x) = % x, %d", b, made, code)
		}
	}
	for _, packet := range somePackets() {
		for _, b := range hardFilters() {
			if verdict, code := gauge.Run(b, packet); code != api.OK && verdict != 0 {
				t.Fatalf("P1: Run(% x) = %d, %d", b, verdict, code)
			}
		}
		for _, b := range hardCode() {
			if result, steps, code := gauge.Exec(b, packet); code != api.OK && result != 0 || code == api.ErrArg && steps != 0 {
				t.Fatalf("P1: Exec(% x) = %d, %d, %d", b, result, steps, code)
			}
		}
	}
}

// Of a wrong filter and a packet that is too long the filter is named first.
func TestP1WhichIsFirst(t *testing.T) {
	long := packetOf(api.MaxPacket + 1)
	for _, b := range hardFilters() {
		want, _ := gauge.Check(b)
		if want == api.OK {
			want = api.ErrArg
		}
		if _, code := gauge.Run(b, long); code != want {
			t.Fatalf("P1: Run(% x) of a packet that is too long: %d, want %d", b, code, want)
		}
	}
}

func TestP2ArgumentsStay(t *testing.T) {
	packet, packetRoom := inRoom(packetOf(20))
	packetBefore := bytes.Clone(packetRoom)
	for _, b := range hardFilters() {
		filter, room := inRoom(b)
		before := bytes.Clone(room)
		gauge.Decode(filter)
		gauge.Check(filter)
		gauge.Verify(filter)
		gauge.Run(filter, packet)
		gauge.Compile(filter)
		if !bytes.Equal(room, before) {
			t.Fatalf("P2: a call wrote into % x or beside it", b)
		}
	}
	for _, b := range hardCode() {
		code, room := inRoom(b)
		before := bytes.Clone(room)
		gauge.Exec(code, packet)
		if !bytes.Equal(room, before) {
			t.Fatalf("P2: Exec wrote into % x or beside it", b)
		}
	}
	if !bytes.Equal(packetRoom, packetBefore) {
		t.Errorf("P2: a call wrote into a packet or beside it: % x", packetRoom)
	}
	list := make([]api.Insn, 9)
	for i := range list {
		list[i] = api.Insn{Code: -i, Jt: 256 + i, Jf: -i, K: 1<<32 + i}
	}
	before := slices.Clone(list)
	gauge.Encode(list[2:4])
	if !slices.Equal(list, before) {
		t.Errorf("P2: Encode wrote into its list or beside it: %v", list)
	}
}

// spoil writes over a list and its spare room, as a caller may.
func spoil[E any](list []E, with E) {
	list = list[:cap(list)]
	for i := range list {
		list[i] = with
	}
}

func TestP2DecodeIsNew(t *testing.T) {
	want := []api.Insn{op(0x28, 12), ask(0x15, 0, 1), op(0x06, 96), op(0x06, 0)}
	filter := filterOf(want...)
	first, _ := gauge.Decode(filter)
	second, _ := gauge.Decode(filter)
	spoil(first, op(-7, -7))
	if !slices.Equal(second, want) {
		t.Errorf("P2: two answers of Decode share room: %v", second)
	}
	if third, _ := gauge.Decode(filter); !slices.Equal(third, want) {
		t.Errorf("P2: Decode = %v after an answer was written over", third)
	}
	spoil(filter, 0xff)
	if !slices.Equal(second, want) {
		t.Errorf("P2: an answer of Decode hangs on its argument: %v", second)
	}
}

func TestP2EncodeIsNew(t *testing.T) {
	list := []api.Insn{op(0x28, 12), op(0x06, highest)}
	want := filterOf(list...)
	first, second := gauge.Encode(list), gauge.Encode(list)
	spoil(first, 0xee)
	spoil(list, op(1, 1))
	if !bytes.Equal(second, want) {
		t.Errorf("P2: an answer of Encode changed: % x", second)
	}
}

func TestP2CompileIsNew(t *testing.T) {
	list := one(op(0x28, 12), api.Insn{Code: 0x15, Jf: 1, K: 0x0800}, op(0x06, 96), op(0x06, 0))
	filter := filterOf(list...)
	first, _ := gauge.Compile(filter)
	want := bytes.Clone(first)
	second, _ := gauge.Compile(filter)
	spoil(first, 0xee)
	if !bytes.Equal(second, want) {
		t.Errorf("P2: two answers of Compile share room: % x", second)
	}
	if third, _ := gauge.Compile(filter); !bytes.Equal(third, want) {
		t.Errorf("P2: Compile = % x after an answer was written over", third)
	}
	spoil(filter, 0xff)
	if !bytes.Equal(second, want) {
		t.Errorf("P2: an answer of Compile hangs on its argument: % x", second)
	}
}

func TestP2FaultIsNew(t *testing.T) {
	filter := ended(op(0x00, 0), op(0x60, 3))
	var fault *api.Fault
	errors.As(gauge.Verify(filter), &fault)
	*fault = api.Fault{At: 99, Code: api.OK}
	mustCheck(t, "P2", filter, api.ErrFirst, 1)
	if !errors.As(gauge.Verify(filter), &fault) || fault.At != 1 || fault.Code != api.ErrFirst {
		t.Errorf("P2: Verify tells %+v after a fault was written over", fault)
	}
}

// answer is what the calls answer of some bytes, taken as a filter and as code.
type answer struct {
	list          []api.Insn
	bytes         []byte
	code          api.Errno
	place         int
	verdict       int
	result, steps int
	fault         api.Errno
	made          []byte
}

func answerOf(b, packet []byte) (a answer) {
	a.list, _ = gauge.Decode(b)
	a.bytes = gauge.Encode(a.list)
	a.code, a.place = gauge.Check(b)
	a.verdict, _ = gauge.Run(b, packet)
	a.result, a.steps, a.fault = gauge.Exec(b, packet)
	a.made, _ = gauge.Compile(b)
	return a
}

// What was called ahead, and what stands beside the bytes that are handed in, is not seen in an answer.
func TestP2SameAnswers(t *testing.T) {
	lists := append(hardFilters(), hardCode()...)
	r := source()
	for range 2000 {
		lists = append(lists, filterOf(randomProgram(r)...))
	}
	packet := packetOf(7)
	var answers []answer
	for _, b := range lists {
		answers = append(answers, answerOf(b, packet))
	}
	packetBeside, _ := inRoom(packet)
	for i, b := range slices.Backward(lists) {
		beside, _ := inRoom(b)
		if !reflect.DeepEqual(answerOf(beside, packetBeside), answers[i]) {
			t.Fatalf("P2: another answer for % x", b)
		}
	}
}
