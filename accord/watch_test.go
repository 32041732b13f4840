package accord_test

import (
	"strings"
	"testing"

	"accord/accord"
	"accord/api"
)

// chance gives numbers that look like chance but are the same in every run.
type chance uint32

func (c *chance) below(n int) int {
	*c = *c*1664525 + 1013904223
	return int(uint32(*c)>>8) % n
}

// watch holds a cluster against what was voted and what it has said before.
// Its pairs are a node and a transaction.
type watch struct {
	c     *accord.Cluster
	nodes int
	begun int
	down  [api.MaxNodes + 1]bool
	no    map[[2]int]bool // who has voted no, or is to do so whenever it votes
	said  map[[2]int]int  // since the node fell last
	came  map[[2]int]int  // Taken or Left, whichever it ever was
}

func watched(t *testing.T, wait int, sorts ...int) *watch {
	return &watch{
		c: cluster(t, wait, sorts...), nodes: len(sorts),
		no: map[[2]int]bool{}, said: map[[2]int]int{}, came: map[[2]int]int{},
	}
}

func (w *watch) refuse(t *testing.T, node, tx int) {
	t.Helper()
	answers(t, "Vote", w.c.Vote(node, tx, false), api.OK)
	w.no[[2]int{node, tx}] = true
}

func (w *watch) begin(t *testing.T) {
	t.Helper()
	if w.down[0] {
		if tx, e := w.c.Begin(); tx != 0 || e != api.ErrDown {
			t.Fatalf("Begin while the coordinator is down = %d, %d", tx, e)
		}
		return
	}
	w.begun++
	begins(t, w.c, w.begun)
}

// fall lets a node fall, and looks at what is left of its log.
func (w *watch) fall(t *testing.T, node, keep int) {
	t.Helper()
	before := look(w.c)
	if w.down[node] {
		answers(t, "Crash of a node that is down", w.c.Crash(node, keep), api.ErrDown)
		unchanged(t, w.c, before)
		return
	}
	answers(t, "Crash", w.c.Crash(node, keep), api.OK)
	w.down[node] = true
	for tx := 1; tx <= w.begun; tx++ {
		delete(w.said, [2]int{node, tx})
		if says, e := w.c.Outcome(node, tx); says != 0 || e != api.ErrDown {
			t.Fatalf("Outcome(%d, %d) of a node that is down = %d, %d", node, tx, says, e)
		}
	}
	text, safe, _ := w.c.Log(node)
	was, size := before.logs[node], before.safe[2*node]
	if safe != size || text != was[:size+min(keep, len(was)-size)] {
		t.Fatalf("the log of %d was %x, %d, and with %d kept it is %x, %d", node, was, size, keep, text, safe)
	}
}

// again lets a node come again, and looks at what it makes of its log.
func (w *watch) again(t *testing.T, node int) {
	t.Helper()
	before := look(w.c)
	if !w.down[node] {
		answers(t, "Restart of a node that is up", w.c.Restart(node), api.ErrUp)
		unchanged(t, w.c, before)
		return
	}
	answers(t, "Restart", w.c.Restart(node), api.OK)
	w.down[node] = false
	_, whole := accord.Scan(before.logs[node])
	text, safe, _ := w.c.Log(node)
	if !strings.HasPrefix(text, before.logs[node][:whole]) || safe < whole {
		t.Fatalf("the log of %d was %x, and became %x, %d", node, before.logs[node], text, safe)
	}
	// Only the coordinator goes on by itself.
	if net, _ := w.c.Net(); node > 0 && (len(text) != whole || len(net) != len(before.net)) {
		t.Fatalf("the node %d came again, and wrote or sent", node)
	}
}

func (w *watch) allAgain(t *testing.T) {
	t.Helper()
	for node := range w.nodes + 1 {
		if w.down[node] {
			w.again(t, node)
		}
	}
}

// agree looks at P7, P8 and P9.
func (w *watch) agree(t *testing.T) {
	t.Helper()
	w.listen()
	for tx := 1; tx <= w.begun; tx++ {
		ever := map[int]bool{}
		refused := false
		for node := 0; node <= w.nodes; node++ {
			w.hear(t, node, tx)
			ever[w.came[[2]int{node, tx}]] = true
			refused = refused || w.no[[2]int{node, tx}]
		}
		if ever[api.Taken] && ever[api.Left] {
			t.Fatalf("P7: %d is committed at some time and place, and aborted at another", tx)
		}
		if ever[api.Taken] && refused {
			t.Fatalf("P8: %d is committed, though one voted no", tx)
		}
	}
}

// listen notes who votes no. (It reads the bytes itself, for it is called often.)
func (w *watch) listen() {
	net, _ := w.c.Net()
	for _, b := range net {
		if b[2] == api.No {
			w.no[[2]int{int(b[3]), int(b[5])}] = true
		}
	}
}

// hear notes what a node says. Only a fall may bring it into doubt again, and
// it comes to the same then.
func (w *watch) hear(t *testing.T, node, tx int) {
	t.Helper()
	if w.down[node] {
		return
	}
	k := [2]int{node, tx}
	now, e := w.c.Outcome(node, tx)
	answers(t, "Outcome", e, api.OK)
	ended := func(says int) bool { return says == api.Taken || says == api.Left }
	if before := w.said[k]; ended(before) && now != before {
		t.Fatalf("P9: the node %d had %d as %d, and has it as %d", node, tx, before, now)
	}
	w.said[k] = now
	if !ended(now) {
		return
	}
	if came := w.came[k]; ended(came) && came != now {
		t.Fatalf("P9: ahead of a fall the node %d had %d as %d, and has it as %d", node, tx, came, now)
	}
	w.came[k] = now
}

func (w *watch) ended() bool {
	for tx := 1; tx <= w.begun; tx++ {
		for node := 0; node <= w.nodes; node++ {
			if now, _ := w.c.Outcome(node, tx); now == api.Open {
				return false
			}
		}
	}
	net, _ := w.c.Net()
	return len(net) == 0
}

// finish delivers all that is under way, and ticks, till all have ended.
func (w *watch) finish(t *testing.T, pick func(n int) int) {
	t.Helper()
	for range api.MaxWait + 5 {
		for net, _ := w.c.Net(); len(net) > 0; net, _ = w.c.Net() {
			delivers(t, w.c, pick(len(net)))
			w.agree(t)
		}
		if w.ended() {
			w.whole(t)
			return
		}
		ticks(t, w.c, 1)
	}
	t.Fatalf("P10: it comes to no end: %x", look(w.c))
}

// whole looks whether what ended is committed at all nodes or at none. (Of an
// abort that was lost a node may know nothing, if nobody waited for its Ack.)
func (w *watch) whole(t *testing.T) {
	t.Helper()
	for tx := 1; tx <= w.begun; tx++ {
		want, _ := w.c.Outcome(1, tx)
		for node := range w.nodes + 1 {
			if now, _ := w.c.Outcome(node, tx); (now == api.Taken) != (want == api.Taken) {
				t.Fatalf("P10: of %d the node 1 says %d, the node %d says %d", tx, want, node, now)
			}
		}
	}
}
