package gauge_test

import (
	"bytes"
	"math/rand"
	"slices"
	"testing"

	"gauge/api"
	"gauge/gauge"
)

// Where a socket that there is not and a wrong filter come together, the socket is named first.
func TestP1SocketIsFirst(t *testing.T) {
	n := gauge.New()
	for _, filter := range hardFilters() {
		for _, socket := range []int{-1, api.Sockets} {
			if code := n.Attach(socket, filter, true); code != api.ErrArg {
				t.Fatalf("P1: Attach(%d, % x) = %d", socket, filter, code)
			}
		}
	}
}

func TestP1SocketsNoPanic(t *testing.T) {
	n := gauge.New()
	for i, filter := range hardFilters() {
		socket := i%(api.Sockets+2) - 1
		n.Attach(socket, filter, i%3 == 0)
		for _, packet := range somePackets() {
			n.Frame(packet)
			if got, code := n.Receive((i + 3) % api.Sockets); code != api.OK && got != nil {
				t.Fatalf("P1: Receive = %q, %d", got, code)
			}
		}
		if i%7 == 0 {
			n.Detach(socket)
		}
	}
	for _, socket := range noSockets {
		n.Attach(socket, nil, false)
		n.Attach(socket, gives(1), true)
		n.Detach(socket)
		n.Receive(socket)
		n.Dropped(socket)
	}
}

// With an error nothing is changed: calls that are refused stand between the others, and nothing of them is seen.
func TestP1RefusedCallsChangeNothing(t *testing.T) {
	refused := func(n *gauge.Net) {
		n.Attach(1, nil, true)
		n.Attach(0, ended(op(0x60, 0)), false)
		n.Attach(api.Sockets, gives(0), false)
		n.Detach(7)
		n.Detach(-1)
		n.Frame(make([]byte, api.MaxPacket+1))
		n.Receive(7)
		n.Receive(api.Sockets)
	}
	for _, compiled := range bothWays {
		n := gauge.New()
		mustAttach(t, n, 0, gives(1), compiled)
		mustAttach(t, n, 1, gives(2), compiled)
		for _, packet := range []string{"abc", "def", "ghi", "jkl", "mno"} {
			refused(n)
			mustFrame(t, n, packet)
		}
		refused(n)
		for socket := range 2 {
			mustDrop(t, n, socket, 1)
			for _, packet := range []string{"abc", "def", "ghi", "jkl"} {
				mustGet(t, n, socket, packet[:socket+1])
				refused(n)
			}
			mustGetAll(t, n, socket)
		}
	}
}

func TestP2SocketArgumentsStay(t *testing.T) {
	packet, packetRoom := inRoom(packetOf(20))
	packetBefore := bytes.Clone(packetRoom)
	n := gauge.New()
	for i, b := range hardFilters() {
		filter, room := inRoom(b)
		before := bytes.Clone(room)
		n.Attach(i%api.Sockets, filter, i%3 == 0)
		n.Frame(packet)
		if got, code := n.Receive(i % api.Sockets); code == api.OK {
			spoil(got, 0xee)
		}
		if !bytes.Equal(room, before) {
			t.Fatalf("P2: a call wrote into % x or beside it", b)
		}
		if !bytes.Equal(packetRoom, packetBefore) {
			t.Fatalf("P2: a call wrote into a packet or beside it: % x", packetRoom)
		}
	}
}

func TestP2FilterIsNotKept(t *testing.T) {
	for _, compiled := range bothWays {
		for _, with := range []byte{0, 6, 0xff} {
			n := gauge.New()
			filter := filterOf(op(0x28, 0), api.Insn{Code: 0x15, Jf: 1, K: 0x6162}, op(0x06, 3), op(0x06, 1))
			mustAttach(t, n, 0, filter, compiled)
			mustFrame(t, n, "abcd")
			spoil(filter, with)
			mustFrame(t, n, "abcd", "bcde")
			mustGetAll(t, n, 0, "abc", "abc", "b")
		}
	}
}

func TestP2PacketIsNotKept(t *testing.T) {
	for _, compiled := range bothWays {
		n := gauge.New()
		mustAttach(t, n, 0, gives(3), compiled)
		mustAttach(t, n, 1, gives(highest), compiled)
		packet := make([]byte, 0, 64) // one room for all packets, as a reader may have it
		for _, text := range []string{"first", "second", "", "third"} {
			packet = append(packet[:0], text...)
			n.Frame(packet)
			spoil(packet, 0xee)
		}
		mustGetAll(t, n, 0, "fir", "sec", "", "thi")
		mustGetAll(t, n, 1, "first", "second", "", "third")
	}
}

// What is received shares room with nothing: another socket's, what waits, what came before, what comes.
func TestP2ReceivedIsNew(t *testing.T) {
	for _, compiled := range bothWays {
		n := gauge.New()
		var all [][]byte
		for socket := range api.Sockets {
			mustAttach(t, n, socket, gives(socket+2), compiled)
		}
		for turn := range 40 {
			packet := string(packetOf(turn))
			mustFrame(t, n, packet, packet)
			for socket := range api.Sockets {
				for range 2 {
					got, code := n.Receive(socket)
					if want := packet[:min(turn, socket+2)]; string(got) != want || code != api.OK {
						t.Fatalf("P2: Receive(%d) = %q, %d, want %q", socket, got, code, want)
					}
					spoil(got, byte(len(all)))
					all = append(all, got)
				}
			}
		}
		for i, got := range all {
			if !bytes.Equal(got[:cap(got)], bytes.Repeat([]byte{byte(i)}, cap(got))) {
				t.Fatalf("P2: what was received as number %d was written into: % x", i, got[:cap(got)])
			}
		}
	}
}

// What a call answers hangs on the calls on the same sockets alone: many nets in turn do as each alone does.
func TestP2NetsInTurn(t *testing.T) {
	const nets, steps = 6, 400
	rows := make([][]step, nets)
	alone := make([][]seen, nets)
	for i := range nets {
		r := rand.New(rand.NewSource(int64(i)))
		n := gauge.New()
		for range steps {
			s := randomStep(r)
			rows[i] = append(rows[i], s)
			alone[i] = append(alone[i], s.do(n))
		}
	}
	together := make([]*gauge.Net, nets)
	for i := range together {
		together[i] = gauge.New()
	}
	for k := range steps {
		for i, n := range slices.Backward(together) {
			if got := rows[i][k].do(n); got != alone[i][k] {
				t.Fatalf("P2: %#v = %#v, and without other nets %#v", rows[i][k], got, alone[i][k])
			}
		}
	}
}
