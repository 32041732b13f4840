package transit

import (
	"math"
	"slices"
	"testing"

	"accord/api"
)

func about(txs ...int) []api.Message {
	var all []api.Message
	for _, tx := range txs {
		all = append(all, api.Message{Kind: api.Ack, From: 1, Tx: tx})
	}
	return all
}

func holds(t *testing.T, n *Net, txs ...int) {
	t.Helper()
	if got := n.All(); !slices.Equal(got, about(txs...)) {
		t.Errorf("under way are %v; want %v", got, about(txs...))
	}
}

func TestOrder(t *testing.T) {
	var n Net
	holds(t, &n)
	n.Send()
	holds(t, &n)
	n.Send(about(1, 2)...)
	n.Send(about(3, 1, 4)...)
	holds(t, &n, 1, 2, 3, 1, 4)
	if m := n.Look(2); m.Tx != 3 {
		t.Errorf("Look(2) = %v", m)
	}
	holds(t, &n, 1, 2, 3, 1, 4)
	if m := n.Take(1); m.Tx != 2 {
		t.Errorf("Take(1) = %v", m)
	}
	holds(t, &n, 1, 3, 1, 4)
	if m := n.Take(3); m.Tx != 4 {
		t.Errorf("Take(3) = %v", m)
	}
	if m := n.Take(0); m.Tx != 1 {
		t.Errorf("Take(0) = %v", m)
	}
	n.Send(about(5)...)
	holds(t, &n, 3, 1, 5)
}

func TestHas(t *testing.T) {
	var n Net
	n.Send(about(1, 2)...)
	for i, want := range map[int]bool{0: true, 1: true, 2: false, -1: false, math.MaxInt: false, math.MinInt: false} {
		if n.Has(i) != want {
			t.Errorf("Has(%d) = %t", i, !want)
		}
	}
	n.Take(0)
	if n.Has(1) {
		t.Error("Has(1) after one of two was taken")
	}
}

// Of what is sent at once the first find room, and the others are lost.
func TestBound(t *testing.T) {
	for _, room := range []int{0, 1, 2, 3, 4} {
		var n Net
		for range api.MaxNet - room {
			n.Send(about(9)...)
		}
		if n.Full() != (room == 0) {
			t.Errorf("with room for %d: Full = %t", room, n.Full())
		}
		n.Send(about(1, 2, 3)...)
		stays := min(room, 3)
		all := n.All()
		if len(all) != api.MaxNet-room+stays {
			t.Fatalf("with room for %d: %d are under way", room, len(all))
		}
		if got, want := all[api.MaxNet-room:], about(1, 2, 3)[:stays]; !slices.Equal(got, want) {
			t.Errorf("with room for %d: the last ones are %v; want %v", room, got, want)
		}
	}
}

// What was handed in or out is not shared with the net.
func TestMemory(t *testing.T) {
	var n Net
	sent := about(1, 2, 3)
	n.Send(sent...)
	sent[0].Tx = 7
	out := n.All()
	out[1].Tx = 8
	n.Take(0)
	n.Send(about(4)...)
	holds(t, &n, 2, 3, 4)
	if !slices.Equal(out, []api.Message{about(1)[0], about(8)[0], about(3)[0]}) {
		t.Errorf("an answer changed later on: %v", out)
	}
}
