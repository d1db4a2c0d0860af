package net_test

import (
	"testing"

	"firth/api"
	. "firth/net"
)

var a, b, c = api.Addr{Site: 1}, api.Addr{Site: 1, Node: 2}, api.Addr{Site: 2}

func pack(from, to api.Addr, data string) api.Packet {
	return api.Packet{From: from, To: to, Data: []byte(data)}
}

func same(p api.Packet, from, to api.Addr, data string) bool {
	return p.From == from && p.To == to && string(p.Data) == data
}

func tally(t *testing.T, n *Net, sent, taken, lost int64) {
	t.Helper()
	if x, y, z := n.Tally(); x != sent || y != taken || z != lost {
		t.Error(x, y, z)
	}
}

func TestPacketsGoTheirWay(t *testing.T) {
	n := New()
	if !n.Send(pack(a, b, "p")) || !n.Send(pack(b, c, "q")) || !n.Send(pack(c, a, "")) || n.Len() != 3 {
		t.Fatal("Send")
	}
	if p, ok := n.Look(2); !ok || !same(p, c, a, "") || n.Len() != 3 {
		t.Error(p, ok)
	}
	if p, ok := n.Take(1); !ok || !same(p, b, c, "q") || n.Len() != 2 {
		t.Error(p, ok)
	}
	if p, _ := n.Look(1); !same(p, c, a, "") {
		t.Error("those behind have a number less")
	}
	if !n.Lose(1) || n.Len() != 1 || !n.Copy(0) {
		t.Error("Lose, Copy")
	}
	tally(t, n, 3, 1, 1)
	if p, ok := n.Take(0); !ok || !same(p, a, b, "p") {
		t.Error(p, ok)
	}
	if p, ok := n.Take(0); !ok || !same(p, a, b, "p") || n.Len() != 0 {
		t.Error(p, ok)
	}
	tally(t, n, 3, 3, 1)
}

func TestNoSuchPacket(t *testing.T) {
	n := New()
	n.Send(pack(a, b, "p"))
	for _, i := range []int{-1, 1, 1 << 62, -1 << 63} {
		if p, ok := n.Look(i); ok || p.Data != nil || p.To != (api.Addr{}) {
			t.Error(i)
		}
		if _, ok := n.Take(i); ok || n.Lose(i) || n.Copy(i) || n.Flip(i, 0, 1) || n.Flip(0, i, 1) {
			t.Error(i)
		}
	}
	tally(t, n, 1, 0, 0)
	if n.Len() != 1 {
		t.Error(n.Len())
	}
}

func TestFlip(t *testing.T) {
	n := New()
	n.Send(pack(a, b, "pq"))
	n.Copy(0)
	if !n.Flip(1, 1, 'q'^'z') || !n.Flip(1, 0, 0) {
		t.Error("Flip")
	}
	if p, _ := n.Look(1); string(p.Data) != "pz" {
		t.Error(string(p.Data))
	}
	if p, _ := n.Look(0); string(p.Data) != "pq" {
		t.Error("the other one", string(p.Data))
	}
}

func TestParted(t *testing.T) {
	n := New()
	n.Part(a, b, true)
	n.Part(c, c, true)
	if !n.Parted(a, b) || !n.Parted(b, a) || n.Parted(a, c) || n.Parted(c, c) || n.Parted(a, a) {
		t.Error("Parted")
	}
	n.Send(pack(b, a, "p"))
	n.Send(pack(c, c, "s"))
	if p, ok := n.Look(0); !ok || string(p.Data) != "p" {
		t.Error("parting is told when it arrives")
	}
	if p, ok := n.Take(0); ok || p.Data != nil || n.Len() != 1 {
		t.Error(p, ok)
	}
	tally(t, n, 2, 0, 1)
	if _, ok := n.Take(0); !ok {
		t.Error("to itself")
	}
	n.Part(b, a, false)
	n.Part(b, a, false)
	n.Send(pack(a, b, "p"))
	if _, ok := n.Take(0); !ok || n.Parted(a, b) {
		t.Error("joined")
	}
	tally(t, n, 3, 2, 1)
}

func TestTooManyPackets(t *testing.T) {
	n := New()
	for range api.MaxPackets {
		if !n.Send(pack(a, b, "")) {
			t.Fatal("refused")
		}
	}
	if n.Send(pack(a, b, "")) || n.Copy(0) || n.Len() != api.MaxPackets {
		t.Error("too many")
	}
	tally(t, n, api.MaxPackets, 0, 0)
	n.Lose(0)
	if !n.Copy(0) || n.Len() != api.MaxPackets {
		t.Error("room again")
	}
	tally(t, n, api.MaxPackets, 0, 1)
}

func TestNothingIsKept(t *testing.T) {
	n := New()
	p := pack(a, b, "pq")
	n.Send(p)
	p.Data[0] = 'X'
	q, _ := n.Look(0)
	q.Data[1] = 'Y'
	if p, _ := n.Take(0); string(p.Data) != "pq" {
		t.Error(string(p.Data))
	}
}
