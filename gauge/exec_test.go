package gauge_test

import (
	"bytes"
	"math/rand"
	"slices"
	"testing"

	"gauge/api"
	"gauge/gauge"
)

func mustExec(t *testing.T, code, packet []byte, result, steps int, errno api.Errno) {
	t.Helper()
	if v, n, e := gauge.Exec(code, packet); v != result || n != steps || e != errno {
		if len(code) > 100 {
			code = code[:100]
		}
		t.Errorf("P6: Exec(% x) of %d bytes = %#x, %d, %d, want %#x, %d, %d", code, len(packet), v, n, e, result, steps, errno)
	}
}

// mustStop: the code stops with the result, in so many steps.
func mustStop(t *testing.T, code, packet []byte, result, steps int) {
	t.Helper()
	mustExec(t, code, packet, result, steps, api.OK)
}

// mustFault: a fault, with so many steps ahead of it.
func mustFault(t *testing.T, code, packet []byte, steps int) {
	t.Helper()
	mustExec(t, code, packet, 0, steps, api.ErrFault)
}

// push is the code that pushes a word.
func push(w int) []byte { return []byte{1, byte(w >> 24), byte(w >> 16), byte(w >> 8), byte(w)} }

// pushes is the code that pushes so many words: 1, 2, 3 ...
func pushes(n int) []byte {
	var code []byte
	for i := range n {
		code = append(code, push(1+i)...)
	}
	return code
}

// raw is a piece of code.
func raw(b ...byte) []byte { return b }

// all puts pieces of code behind each other.
func all(pieces ...[]byte) []byte { return slices.Concat(pieces...) }

func TestP6Words(t *testing.T) {
	for _, w := range edges {
		mustStop(t, all(push(w), raw(9)), nil, w, 2)
	}
	mustStop(t, raw(1, 0x12, 0x34, 0x56, 0x78, 9), nil, 0x12345678, 2)
	mustStop(t, all(push(1), push(2), raw(9)), nil, 2, 3) // the last one is popped first
	mustStop(t, all(push(1), raw(9, 9, 0, 255)), nil, 1, 2)
}

func TestP6Cells(t *testing.T) {
	var fill []byte
	for n := range 18 {
		mustStop(t, raw(2, byte(n), 9), nil, 0, 2)
		fill = all(fill, push(100+n), raw(3, byte(n)))
	}
	for n := range 18 {
		mustStop(t, all(fill, raw(2, byte(n), 9)), nil, 100+n, 38)
		mustStop(t, all(fill, push(5), raw(3, byte(n), 2, byte(n), 2, byte(n), 9)), nil, 5, 41)
	}
	mustStop(t, all(push(7), push(8), raw(3, 0, 9)), nil, 7, 4)
}

func TestP6Operators(t *testing.T) {
	for o := range 10 {
		for _, x := range edges {
			for _, y := range edges {
				code := all(push(x), push(y), raw(4, byte(o), 9))
				if want := reckoned(o, x, y); want >= 0 {
					mustStop(t, code, nil, want, 4)
				} else {
					mustStop(t, code, nil, 0, 3)
				}
			}
		}
	}
	mustStop(t, all(push(9), push(7), push(5), raw(4, 1, 4, 1, 9)), nil, 7, 6)
}

// It stops at once: what comes behind is not even read.
func TestP6DividedByZero(t *testing.T) {
	for _, o := range []byte{3, 4} {
		for _, rest := range [][]byte{nil, raw(0), raw(9), raw(1, 2), push(5)} {
			mustStop(t, all(push(5), push(0), raw(4, o), rest), nil, 0, 3)
			mustStop(t, all(push(5), push(5), push(0), raw(4, o), rest), nil, 0, 4)
		}
		mustStop(t, all(push(0), push(5), raw(4, o, 9)), nil, 0, 4)
	}
}

func TestP6Loads(t *testing.T) {
	for _, n := range []int{0, 1, 2, 3, 4, 5, 6, 70, api.MaxPacket} {
		packet := packetOf(n)
		for _, size := range []int{1, 2, 4} {
			for from := max(0, n-9); from < n+5; from++ {
				for _, x := range []int{0, from / 2, from} {
					mustLoadByCode(t, packet, x, from-x, size, loaded(packet, from, size))
				}
			}
			for _, x := range []int{n, 1 << 16, 1 << 31, highest - 3, highest} {
				for _, y := range []int{0, 1, 1<<32 - x, highest} {
					mustLoadByCode(t, packet, x, y&highest, size, -1)
				}
			}
		}
	}
}

func mustLoadByCode(t *testing.T, packet []byte, x, y, size, want int) {
	t.Helper()
	start := all(push(x), push(y), raw(5, byte(size)))
	if want >= 0 {
		mustStop(t, all(start, raw(9)), packet, want, 4)
		return
	}
	for _, rest := range [][]byte{nil, raw(9), raw(0)} {
		mustStop(t, all(start, rest), packet, 0, 3)
	}
}

func TestP6Length(t *testing.T) {
	for _, n := range []int{0, 1, 255, 256, api.MaxPacket - 1, api.MaxPacket} {
		mustStop(t, raw(6, 9), packetOf(n), n, 2)
	}
}

func TestP6Leaps(t *testing.T) {
	for _, d := range []int{0, 1, 2, 5, 255, 256, 1<<15 - 1, 1 << 15, 65535} {
		leap := raw(7, byte(d>>8), byte(d))
		mustStop(t, all(leap, make([]byte, d), push(5), raw(9)), nil, 5, 3)
		mustFault(t, all(leap, make([]byte, d)), nil, 1)
		if d > 0 {
			mustFault(t, all(leap, make([]byte, d-1)), nil, 1)
			mustFault(t, leap, nil, 1)
		}
	}
	// into the middle of another instruction
	mustStop(t, all(push(8), raw(7, 0, 3, 1, 0, 0, 6, 9)), packetOf(3), 3, 4)
	mustStop(t, raw(7, 0, 2, 3, 3, 6, 9), packetOf(3), 3, 3)
}

func TestP6Questions(t *testing.T) {
	for q := range 4 {
		for _, x := range edges {
			for _, y := range edges {
				code := all(push(x), push(y), raw(8, byte(q), 0, 6), push(2), raw(9), push(1), raw(9))
				if holds(q, x, y) {
					mustStop(t, code, nil, 1, 5)
				} else {
					mustStop(t, code, nil, 2, 5)
				}
			}
		}
	}
}

func TestP6QuestionsGoFar(t *testing.T) {
	for _, d := range []int{0, 1, 255, 256, 65535} {
		yes := all(push(3), push(3), raw(8, 0, byte(d>>8), byte(d)))
		no := all(push(3), push(4), raw(8, 0, byte(d>>8), byte(d)))
		mustStop(t, all(yes, make([]byte, d), raw(6, 9)), packetOf(4), 4, 5)
		mustFault(t, all(yes, make([]byte, d)), nil, 3)
		mustStop(t, all(no, raw(6, 9)), packetOf(4), 4, 5)
		mustFault(t, no, nil, 3)
	}
	mustStop(t, all(push(5), push(3), push(3), raw(8, 0, 0, 0, 9)), nil, 5, 5) // both are popped, and no more
}

func TestP6NoInstruction(t *testing.T) {
	for b := range 256 {
		if b < 1 || b > 9 {
			mustFault(t, raw(byte(b)), nil, 0)
			mustFault(t, all(raw(byte(b)), pushes(3)), nil, 0)
			mustFault(t, all(pushes(3), raw(byte(b), 0, 0, 0, 0, 9)), nil, 3)
		}
	}
	mustFault(t, nil, nil, 0)
	mustFault(t, []byte{}, packetOf(5), 0)
	mustFault(t, pushes(1), nil, 1)
	mustFault(t, raw(6, 3, 0), nil, 2)
}

// Each number that may stand behind a first byte, and each that may not.
func TestP6NumbersOfInstructions(t *testing.T) {
	right := map[byte]func(n int) bool{
		2: func(n int) bool { return n < 18 },
		3: func(n int) bool { return n < 18 },
		4: func(n int) bool { return n < 10 },
		5: func(n int) bool { return n == 1 || n == 2 || n == 4 },
		8: func(n int) bool { return n < 4 },
	}
	for first, isRight := range right {
		for n := range 256 {
			code := all(pushes(3), raw(first, byte(n)))
			if first == 8 {
				code = append(code, 0, 0)
			}
			code = append(code, 6, 9)
			if isRight(n) {
				mustStop(t, code, packetOf(20), 20, 6)
			} else {
				mustFault(t, code, packetOf(20), 3)
			}
		}
	}
	mustFault(t, all(push(5), push(0), raw(4, 10, 9)), nil, 2)
	mustFault(t, all(push(50), push(0), raw(5, 3, 9)), nil, 2) // not beyond the packet: a fault first
}

// whole has each instruction with all of its bytes.
var whole = [][]byte{push(0x01020304), {2, 1}, {3, 1}, {4, 1}, {5, 1}, {6}, {7, 0, 0}, {8, 1, 0, 0}, {9}}

func TestP6NotAllBytes(t *testing.T) {
	for _, code := range whole {
		for n := range code {
			mustFault(t, all(pushes(2), code[:n]), packetOf(9), 2)
			mustFault(t, code[:n], packetOf(9), 0)
		}
	}
}

// taken tells how many words an instruction pops and pushes.
func taken(first byte) (pops, pushes int) {
	switch first {
	case 1, 2, 6:
		return 0, 1
	case 4, 5:
		return 2, 1
	case 3, 9:
		return 1, 0
	case 8:
		return 2, 0
	}
	return 0, 0
}

func TestP6Stack(t *testing.T) {
	for _, code := range whole {
		pops, adds := taken(code[0])
		for high := range api.MaxStack + 1 {
			start := all(pushes(high), code)
			left := high - pops + adds
			switch {
			case high < pops || left > api.MaxStack:
				mustFault(t, all(start, raw(9)), packetOf(20), high)
			case code[0] == 9:
				mustStop(t, start, packetOf(20), high, high+1)
			default:
				// All that is left can be popped, and no more.
				mustFault(t, all(start, bytes.Repeat(raw(3, 0), 10)), packetOf(20), high+1+left)
				mustFault(t, all(start, bytes.Repeat(raw(6), 20)), packetOf(20), high+1+api.MaxStack-left)
			}
		}
	}
	mustFault(t, pushes(api.MaxStack+1), nil, api.MaxStack)
	// With a word too few nothing is divided by 0, and nothing read beyond the packet.
	mustFault(t, all(push(0), raw(4, 3, 9)), nil, 1)
	mustFault(t, all(push(0), raw(4, 4, 9)), nil, 1)
	mustFault(t, all(push(99), raw(5, 1, 9)), nil, 1)
	mustFault(t, raw(4, 3, 9), nil, 0)
}

func TestP6Steps(t *testing.T) {
	leaps := func(n int) []byte { return bytes.Repeat(raw(7, 0, 0), n) }
	const most = api.MaxSteps
	mustStop(t, all(leaps(most-2), raw(6, 9)), packetOf(5), 5, most)
	mustStop(t, all(leaps(most-3), raw(6, 9)), packetOf(5), 5, most-1)
	mustStop(t, all(leaps(most-3), raw(6, 2, 0, 4, 3)), packetOf(5), 0, most)
	mustStop(t, all(leaps(most-3), raw(6, 6, 5, 1)), packetOf(5), 0, most)
	mustFault(t, all(leaps(most-1), raw(6, 9)), packetOf(5), most)
	mustFault(t, all(leaps(most), raw(6, 9)), packetOf(5), most)
	mustFault(t, all(leaps(most+9), raw(6, 9)), packetOf(5), most)
	mustFault(t, all(leaps(most-2), raw(6, 6, 5, 1)), packetOf(5), most)
	mustFault(t, leaps(most), nil, most)
	mustFault(t, all(leaps(most-1), raw(0)), nil, most-1)
	mustFault(t, all(leaps(most), raw(0)), nil, most)
	mustFault(t, leaps(most-1), nil, most-1)
}

func TestP6Packets(t *testing.T) {
	for _, code := range [][]byte{nil, raw(6, 9), raw(6), raw(0), raw(6, 6, 5, 1)} {
		mustExec(t, code, packetOf(api.MaxPacket+1), 0, 0, api.ErrArg)
		mustExec(t, code, make([]byte, 1<<20), 0, 0, api.ErrArg)
	}
	mustStop(t, raw(6, 9), packetOf(api.MaxPacket), api.MaxPacket, 2)
	mustStop(t, raw(6, 9), nil, 0, 2)
	mustStop(t, raw(6, 2, 0, 5, 1, 9), nil, 0, 3)
}

func TestP6Examples(t *testing.T) {
	packet := packetOf(6)
	mustStop(t, raw(1, 0, 0, 0, 7, 9), packet, 7, 2)
	mustFault(t, raw(9), packet, 0)
	mustStop(t, raw(1, 0, 0, 0, 5, 1, 0, 0, 0, 0, 4, 3, 9), packet, 0, 3)
	mustFault(t, raw(7, 0, 0), packet, 1)
	mustStop(t, raw(6, 1, 0, 0, 0, 0, 5, 4, 9), packet, 0, 3)
}

// randomCode: instructions of which most are right, so that it goes on for a while.
func randomCode(r *rand.Rand) []byte {
	var code []byte
	for range r.Intn(40) {
		first := byte(1 + r.Intn(8))
		if first > 2 && first != 7 && r.Intn(3) == 0 {
			first = 1 + byte(r.Intn(2))
		}
		switch first {
		case 1:
			code = append(code, push(edges[r.Intn(len(edges))])...)
		case 2, 3:
			code = append(code, first, byte(r.Intn(3)))
		case 4:
			code = append(code, 4, byte(r.Intn(10)))
		case 5:
			code = append(code, 2, 17, 2, 17, 5, 1<<r.Intn(3))
		case 6:
			code = append(code, 6)
		case 7:
			code = append(code, 7, 0, byte(r.Intn(3)))
		case 8:
			code = append(code, 8, byte(r.Intn(4)), 0, byte(r.Intn(8)))
		}
	}
	if len(code) > 0 && r.Intn(3) == 0 {
		code[r.Intn(len(code))] = byte(r.Intn(20))
	}
	return append(code, 9)
}

// slowCode is code at work, done in another way than the program does it: a Go panic at what it lacks is the fault.
type slowCode struct {
	code, packet []byte
	at           int
	stack        []int
	cells        [18]int
}

func slowExec(code, packet []byte) (result, steps int, errno api.Errno) {
	defer func() {
		if recover() != nil {
			result, errno = 0, api.ErrFault
		}
	}()
	s := slowCode{code: code, packet: packet}
	for ; ; steps++ {
		if result, stops := s.step(); stops {
			return result, steps + 1, api.OK
		}
	}
}

func (s *slowCode) pop() int {
	w := s.stack[len(s.stack)-1]
	s.stack = s.stack[:len(s.stack)-1]
	return w
}

// push takes -1 for what there is not: then the code stops with 0.
func (s *slowCode) push(w int) (result int, stops bool) {
	if s.stack = append(s.stack, w); len(s.stack) > 8 {
		panic("too many words")
	}
	return 0, w < 0
}

// next reads some bytes of the code; the third index keeps it from what stands behind the code.
func (s *slowCode) next(size int) int {
	n := loaded(s.code[s.at:s.at+size:len(s.code)], 0, size)
	s.at += size
	return n
}

// one reads a byte that must be one of these.
func (s *slowCode) one(of ...int) int {
	n := s.next(1)
	return of[slices.Index(of, n)]
}

func (s *slowCode) step() (result int, stops bool) {
	switch s.next(1) {
	case 1:
		return s.push(s.next(4))
	case 2:
		return s.push(s.cells[s.next(1)])
	case 3:
		s.cells[s.next(1)] = s.pop()
	case 4:
		o, y, x := s.one(0, 1, 2, 3, 4, 5, 6, 7, 8, 9), s.pop(), s.pop()
		return s.push(reckoned(o, x, y))
	case 5:
		size, y, x := s.one(1, 2, 4), s.pop(), s.pop()
		return s.push(loaded(s.packet, x+y, size))
	case 6:
		return s.push(len(s.packet))
	case 7:
		d := s.next(2) // moves s.at, too
		s.at += d
	case 8:
		q, d, y, x := s.next(1), s.next(2), s.pop(), s.pop()
		if holds(q, x, y) {
			s.at += d
		}
	case 9:
		return s.pop(), true
	default:
		panic("no instruction")
	}
	return 0, false
}

func TestP6RandomCode(t *testing.T) {
	r := source()
	met := map[api.Errno]int{}
	for range 60000 {
		code, packet := randomCode(r), packetOf(r.Intn(14))
		result, steps, errno := slowExec(code, packet)
		mustExec(t, code, packet, result, steps, errno)
		if steps > 5 {
			met[errno]++
		}
	}
	if met[api.OK] < 2000 || met[api.ErrFault] < 2000 {
		t.Errorf("the random code met %v only", met)
	}
}
