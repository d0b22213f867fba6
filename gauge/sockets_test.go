package gauge_test

import (
	"math/rand"
	"testing"

	"gauge/api"
	"gauge/gauge"
)

// noSockets are numbers of sockets that there are not.
var noSockets = []int{-1, api.Sockets, -2, api.Sockets + 1, 255, 256, 1 << 32, 1 << 62, 1<<63 - 1, -1 << 32, -1 << 63}

// bothWays are the ways of attaching a filter.
var bothWays = []bool{false, true}

// gives is a filter with this verdict of every packet.
func gives(k int) []byte { return filterOf(op(0x06, k)) }

// firstByte is a filter whose verdict is a packet's first byte.
var firstByte = filterOf(op(0x30, 0), op(0x16, 0))

func mustAttach(t *testing.T, n *gauge.Net, socket int, filter []byte, compiled bool) {
	t.Helper()
	if code := n.Attach(socket, filter, compiled); code != api.OK {
		t.Fatalf("P8: Attach(%d, % x, %t) = %d", socket, filter, compiled, code)
	}
}

func mustFrame(t *testing.T, n *gauge.Net, packets ...string) {
	t.Helper()
	for _, packet := range packets {
		if code := n.Frame([]byte(packet)); code != api.OK {
			t.Fatalf("P8: Frame(%q) = %d", packet, code)
		}
	}
}

// mustGet: these wait, in this order.
func mustGet(t *testing.T, n *gauge.Net, socket int, packets ...string) {
	t.Helper()
	for _, want := range packets {
		if got, code := n.Receive(socket); string(got) != want || code != api.OK {
			t.Errorf("P8: Receive(%d) = %q, %d, want %q", socket, got, code, want)
		}
	}
}

// mustGetAll: these wait, and nothing behind them.
func mustGetAll(t *testing.T, n *gauge.Net, socket int, packets ...string) {
	t.Helper()
	mustGet(t, n, socket, packets...)
	if got, code := n.Receive(socket); got != nil || code != api.ErrEmpty {
		t.Errorf("P8: Receive(%d) = %q, %d, want nothing behind %q", socket, got, code, packets)
	}
}

func mustDrop(t *testing.T, n *gauge.Net, socket, want int) {
	t.Helper()
	if got := n.Dropped(socket); got != want {
		t.Errorf("P8: Dropped(%d) = %d, want %d", socket, got, want)
	}
}

func mustDetach(t *testing.T, n *gauge.Net, socket int, want api.Errno) {
	t.Helper()
	if code := n.Detach(socket); code != want {
		t.Errorf("P8: Detach(%d) = %d, want %d", socket, code, want)
	}
}

func TestP8New(t *testing.T) {
	n := gauge.New()
	for range 2 {
		for socket := range api.Sockets {
			mustGetAll(t, n, socket)
			mustDrop(t, n, socket, 0)
			mustDetach(t, n, socket, api.ErrFree)
		}
		mustFrame(t, n, "a", "b", "c", "d", "e", "f") // nobody wants them
	}
}

func TestP8NoSocket(t *testing.T) {
	n := gauge.New()
	for socket := range api.Sockets {
		mustAttach(t, n, socket, gives(socket+1), false)
	}
	mustFrame(t, n, "1234567890")
	for _, socket := range noSockets {
		for _, filter := range hardFilters()[:40] { // right ones and wrong ones
			for _, compiled := range bothWays {
				if code := n.Attach(socket, filter, compiled); code != api.ErrArg {
					t.Errorf("P8: Attach(%d, % x) = %d", socket, filter, code)
				}
			}
		}
		mustDetach(t, n, socket, api.ErrArg)
		if packet, code := n.Receive(socket); packet != nil || code != api.ErrArg {
			t.Errorf("P8: Receive(%d) = %q, %d", socket, packet, code)
		}
		mustDrop(t, n, socket, 0)
	}
	mustFrame(t, n, "abcdefghij")
	for socket := range api.Sockets {
		mustGetAll(t, n, socket, "1234567890"[:socket+1], "abcdefghij"[:socket+1])
		mustDrop(t, n, socket, 0)
		mustDetach(t, n, socket, api.OK)
	}
}

// Of each error of Check: Attach tells it, and the filter that was there stays, or none.
func TestP8AttachErrors(t *testing.T) {
	met := map[api.Errno]int{}
	for _, filter := range hardFilters() {
		want, _ := gauge.Check(filter)
		met[want]++
		if want == api.OK {
			continue
		}
		for _, compiled := range bothWays {
			n := gauge.New()
			mustAttach(t, n, 2, gives(1), compiled)
			mustFrame(t, n, "waits")
			for _, socket := range []int{2, 5} {
				if code := n.Attach(socket, filter, !compiled); code != want {
					t.Fatalf("P8: Attach(%d, % x) = %d, want %d", socket, filter, code, want)
				}
			}
			mustFrame(t, n, "more")
			mustGetAll(t, n, 2, "w", "m")
			mustGetAll(t, n, 5)
			mustDetach(t, n, 2, api.OK)
			mustDetach(t, n, 5, api.ErrFree)
		}
	}
	for want := api.OK; want <= api.ErrFirst; want++ {
		if met[want] == 0 {
			t.Errorf("no filter met %d", want)
		}
	}
}

func TestP8AttachInPlaceOfAnother(t *testing.T) {
	for _, before := range bothWays {
		for _, after := range bothWays {
			n := gauge.New()
			mustAttach(t, n, 4, gives(2), before)
			mustFrame(t, n, "first")
			mustAttach(t, n, 4, gives(3), after)
			mustFrame(t, n, "second")
			mustAttach(t, n, 4, gives(0), before)
			mustFrame(t, n, "third")
			mustAttach(t, n, 4, gives(4), after)
			mustFrame(t, n, "fourth")
			mustGetAll(t, n, 4, "fi", "sec", "four")
			mustDetach(t, n, 4, api.OK) // one filter, however many there were
			mustDetach(t, n, 4, api.ErrFree)
		}
	}
}

func TestP8Detach(t *testing.T) {
	for _, compiled := range bothWays {
		n := gauge.New()
		mustAttach(t, n, 6, gives(9), compiled)
		mustFrame(t, n, "one", "two")
		mustDetach(t, n, 6, api.OK)
		mustFrame(t, n, "three")
		mustDetach(t, n, 6, api.ErrFree)
		mustGet(t, n, 6, "one")
		mustAttach(t, n, 6, gives(1), compiled)
		mustFrame(t, n, "four")
		mustGetAll(t, n, 6, "two", "f")
	}
}

// Behind Attach and Detach a full queue is as full as before, and what was dropped is not forgotten.
func TestP8FullQueueStays(t *testing.T) {
	for _, compiled := range bothWays {
		n := gauge.New()
		mustAttach(t, n, 1, gives(1), compiled)
		mustFrame(t, n, "a", "b", "c", "d", "e")
		mustDrop(t, n, 1, 1)
		mustAttach(t, n, 1, gives(2), !compiled)
		mustFrame(t, n, "ff")
		mustDrop(t, n, 1, 2)
		mustDetach(t, n, 1, api.OK)
		mustFrame(t, n, "gg") // not dropped: the socket does not ask for it
		mustDrop(t, n, 1, 2)
		mustAttach(t, n, 1, gives(2), compiled)
		mustFrame(t, n, "hh")
		mustDrop(t, n, 1, 3)
		mustGetAll(t, n, 1, "a", "b", "c", "d")
		mustDrop(t, n, 1, 3)
	}
}

func TestP8Verdicts(t *testing.T) {
	for _, length := range []int{0, 1, 2, 9, 255, 256, api.MaxPacket - 1, api.MaxPacket} {
		packet := string(packetOf(length))
		for _, verdict := range append([]int{1, 2, 8, 9, 10, 255, 256, 257, 1999, 2000, 2001, 65536}, edges...) {
			for _, compiled := range bothWays {
				n := gauge.New()
				mustAttach(t, n, 0, gives(verdict), compiled)
				mustFrame(t, n, packet)
				if verdict == 0 {
					mustGetAll(t, n, 0)
				} else {
					mustGetAll(t, n, 0, packet[:min(length, verdict)])
				}
				mustDrop(t, n, 0, 0)
			}
		}
	}
}

// Each packet has a verdict of its own, and that of a packet that is not wanted is no drop.
func TestP8VerdictOfEachPacket(t *testing.T) {
	for _, compiled := range bothWays {
		n := gauge.New()
		mustAttach(t, n, 3, firstByte, compiled)
		mustFrame(t, n, "\x02abc", "\x00abc", "", "\x04abc", "\x01abc", "\x05abc")
		mustFrame(t, n, "\x00abc", "", "\x00") // the queue is full, but nothing of these is wanted
		mustDrop(t, n, 3, 0)
		mustFrame(t, n, "\x02abc")
		mustDrop(t, n, 3, 1)
		mustGetAll(t, n, 3, "\x02a", "\x04abc", "\x01", "\x05abc")
	}
}

func TestP8PacketOfNoBytes(t *testing.T) {
	for _, compiled := range bothWays {
		n := gauge.New()
		mustAttach(t, n, 0, gives(highest), compiled)
		mustAttach(t, n, 1, gives(0), compiled)
		mustAttach(t, n, 2, firstByte, compiled) // reads beyond it
		for _, packet := range [][]byte{nil, {}} {
			if code := n.Frame(packet); code != api.OK {
				t.Errorf("P8: Frame of no bytes = %d", code)
			}
		}
		mustFrame(t, n, "x", "", "")
		mustGetAll(t, n, 0, "", "", "x", "")
		mustDrop(t, n, 0, 1)
		mustGetAll(t, n, 1)
		mustGetAll(t, n, 2, "x")
	}
}

func TestP8FrameTooLong(t *testing.T) {
	for _, compiled := range bothWays {
		n := gauge.New()
		mustAttach(t, n, 0, gives(1), compiled)
		for range 2 * api.Queue { // a full queue, too, does not notice
			for _, length := range []int{api.MaxPacket + 1, api.MaxPacket + 2, 1 << 16, 1 << 20} {
				if code := n.Frame(packetOf(length)); code != api.ErrArg {
					t.Errorf("P8: Frame of %d bytes = %d", length, code)
				}
			}
			mustFrame(t, n, "ab")
		}
		mustDrop(t, n, 0, api.Queue)
		mustGetAll(t, n, 0, "a", "a", "a", "a")
	}
	if code := gauge.New().Frame(packetOf(api.MaxPacket + 1)); code != api.ErrArg {
		t.Errorf("P8: Frame of a packet that is too long, without filters = %d", code)
	}
}

// What comes behind a full queue is dropped, until something is taken.
func TestP8Queue(t *testing.T) {
	for _, compiled := range bothWays {
		n := gauge.New()
		mustAttach(t, n, 5, gives(9), compiled)
		mustFrame(t, n, "1", "2", "3")
		mustDrop(t, n, 5, 0)
		mustFrame(t, n, "4")
		mustDrop(t, n, 5, 0)
		mustFrame(t, n, "5")
		mustDrop(t, n, 5, 1)
		mustFrame(t, n, "6")
		mustDrop(t, n, 5, 2)
		mustGet(t, n, 5, "1", "2")
		mustDrop(t, n, 5, 2)
		mustFrame(t, n, "7", "8", "9")
		mustDrop(t, n, 5, 3)
		mustGetAll(t, n, 5, "3", "4", "7", "8")
		mustFrame(t, n, "a")
		mustGetAll(t, n, 5, "a")
		mustDrop(t, n, 5, 3)
	}
}

func TestP8ManyDropped(t *testing.T) {
	n := gauge.New()
	mustAttach(t, n, 7, gives(1), true)
	for i := range 70000 {
		mustFrame(t, n, "x")
		if i%1000 == 0 {
			mustDrop(t, n, 7, max(0, i-3))
		}
	}
	mustDrop(t, n, 7, 70000-api.Queue)
	mustDrop(t, n, 6, 0)
}

// Each socket has a filter, a queue and a number of its own.
func TestP8SocketsBesideOneAnother(t *testing.T) {
	packets := []string{"abcdefghi", "jklmnopqr", "stuvwxyz0", "123456789", "late"}
	for this := range api.Sockets {
		for other := range api.Sockets {
			if this == other {
				continue
			}
			n := gauge.New()
			mustAttach(t, n, this, gives(this+1), false)
			mustAttach(t, n, other, gives(other+1), true)
			mustFrame(t, n, packets[0])
			mustGetAll(t, n, this, packets[0][:this+1])
			mustFrame(t, n, packets[1:]...)
			mustDrop(t, n, this, 0)
			mustDrop(t, n, other, 1)
			mustDetach(t, n, other, api.OK)
			mustDetach(t, n, other, api.ErrFree)
			mustGet(t, n, this, packets[1][:this+1])
			mustFrame(t, n, "end")
			mustGetAll(t, n, this, packets[2][:this+1], packets[3][:this+1], "late"[:min(4, this+1)], "end"[:min(3, this+1)])
			mustGetAll(t, n, other, packets[0][:other+1], packets[1][:other+1], packets[2][:other+1], packets[3][:other+1])
			for third := range api.Sockets {
				if third != this && third != other {
					mustGetAll(t, n, third)
					mustDrop(t, n, third, 0)
					mustDetach(t, n, third, api.ErrFree)
				}
			}
		}
	}
}

func TestP8NetsBesideOneAnother(t *testing.T) {
	for _, compiled := range bothWays {
		first, second := gauge.New(), gauge.New()
		mustAttach(t, first, 3, gives(2), compiled)
		mustDetach(t, second, 3, api.ErrFree)
		mustFrame(t, first, "abc", "def", "ghi", "jkl", "mno")
		mustGetAll(t, second, 3)
		mustDrop(t, second, 3, 0)
		mustAttach(t, second, 3, gives(1), compiled)
		mustFrame(t, second, "xyz")
		mustDetach(t, first, 3, api.OK)
		mustFrame(t, second, "uvw")
		mustGetAll(t, second, 3, "x", "u")
		mustGetAll(t, first, 3, "ab", "de", "gh", "jk")
		mustDrop(t, first, 3, 1)
		mustDrop(t, second, 3, 0)
		mustGetAll(t, gauge.New(), 3)
	}
}

// A filter that keeps something in cells begins anew with each packet.
func TestP8FilterBeginsAnew(t *testing.T) {
	count := filterOf(op(0x04, 1), op(0x02, 3), op(0x60, 3), op(0x07, 0), op(0x87, 0), op(0x16, 0))
	for _, compiled := range bothWays {
		n := gauge.New()
		mustAttach(t, n, 0, count, compiled)
		mustFrame(t, n, "abc", "def", "ghi")
		mustGetAll(t, n, 0, "a", "d", "g")
	}
}

// slowSocket is what the document says of a socket, in the plainest way.
type slowSocket struct {
	has     bool
	list    []api.Insn
	waits   []string
	dropped int
}

// step is a call on sockets.
type step struct {
	call     string
	socket   int
	list     []api.Insn
	compiled bool
	packet   string
}

// seen is what a step answers.
type seen struct {
	packet string
	number int
	code   api.Errno
}

func (s step) do(n *gauge.Net) (a seen) {
	switch s.call {
	case "Attach":
		a.code = n.Attach(s.socket, filterOf(s.list...), s.compiled)
	case "Detach":
		a.code = n.Detach(s.socket)
	case "Frame":
		a.code = n.Frame([]byte(s.packet))
	case "Receive":
		var packet []byte
		packet, a.code = n.Receive(s.socket)
		a.packet = string(packet)
	case "Dropped":
		a.number = n.Dropped(s.socket)
	}
	return a
}

func (s step) doSlowly(net map[int]*slowSocket) seen {
	if s.call == "Frame" {
		return seen{code: slowFrame(net, s.packet)}
	}
	socket := net[s.socket]
	switch {
	case socket == nil && s.call == "Dropped":
		return seen{}
	case socket == nil:
		return seen{code: api.ErrArg}
	case s.call == "Dropped":
		return seen{number: socket.dropped}
	case s.call == "Attach":
		code, _ := gauge.Check(filterOf(s.list...))
		if code == api.OK {
			socket.has, socket.list = true, s.list
		}
		return seen{code: code}
	case s.call == "Detach" && !socket.has:
		return seen{code: api.ErrFree}
	case s.call == "Detach":
		socket.has = false
		return seen{}
	case len(socket.waits) == 0:
		return seen{code: api.ErrEmpty}
	}
	first := socket.waits[0]
	socket.waits = socket.waits[1:]
	return seen{packet: first}
}

func slowFrame(net map[int]*slowSocket, packet string) api.Errno {
	if len(packet) > api.MaxPacket {
		return api.ErrArg
	}
	for _, socket := range net {
		if !socket.has {
			continue
		}
		verdict := verdictOf(socket.list, []byte(packet))
		switch {
		case verdict == 0:
		case len(socket.waits) == api.Queue:
			socket.dropped++
		default:
			socket.waits = append(socket.waits, packet[:min(verdict, len(packet))])
		}
	}
	return api.OK
}

func randomStep(r *rand.Rand) step {
	calls := []string{"Attach", "Detach", "Frame", "Frame", "Frame", "Receive", "Receive", "Receive", "Receive", "Dropped"}
	s := step{call: calls[r.Intn(len(calls))], socket: r.Intn(4), compiled: r.Intn(2) == 0}
	switch r.Intn(12) {
	case 0:
		s.socket = noSockets[r.Intn(len(noSockets))]
	case 1:
		s.socket = r.Intn(api.Sockets)
	}
	packet := packetOf(r.Intn(20))
	if r.Intn(20) == 0 {
		packet = packetOf(api.MaxPacket + r.Intn(3))
	}
	r.Read(packet)
	s.packet = string(packet)
	switch r.Intn(4) {
	case 0:
		s.list = one(op(0x06, r.Intn(20)))
	case 1:
		s.list = one(op(0x30, r.Intn(4)), op(0x54, r.Intn(32)), op(0x16, 0))
	case 2:
		s.list = randomProgram(r)
	case 3:
		s.list = randomFilter(r) // wrong, mostly
	}
	return s
}

// Rows of calls, held against the plainest way; compiled or not is not seen.
func TestP8RandomCalls(t *testing.T) {
	r := source()
	met := map[api.Errno]int{}
	dropped, received := 0, 0
	for range 300 {
		n, net := gauge.New(), map[int]*slowSocket{}
		for socket := range api.Sockets {
			net[socket] = &slowSocket{}
		}
		for range 300 {
			s := randomStep(r)
			got, want := s.do(n), s.doSlowly(net)
			if got != want {
				t.Fatalf("P8: %#v = %#v, want %#v", s, got, want)
			}
			met[want.code]++
			dropped += want.number
			received += len(want.packet)
		}
	}
	for _, code := range []api.Errno{api.OK, api.ErrArg, api.ErrFree, api.ErrEmpty, api.ErrJump, api.ErrFirst} {
		if met[code] == 0 {
			t.Errorf("no call met %d", code)
		}
	}
	if dropped == 0 || received == 0 {
		t.Errorf("%d dropped, %d bytes received", dropped, received)
	}
}
