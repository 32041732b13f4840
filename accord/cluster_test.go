package accord_test

import (
	"math"
	"runtime"
	"slices"
	"testing"

	"accord/accord"
	"accord/api"
)

func cluster(t *testing.T, wait int, sorts ...int) *accord.Cluster {
	t.Helper()
	c, e := accord.New(api.Config{Sorts: sorts, Wait: wait})
	if c == nil || e != api.OK {
		t.Fatalf("New(%v, %d): %d", sorts, wait, e)
	}
	return c
}

func answers(t *testing.T, call string, got, want api.Errno) {
	t.Helper()
	if got != want {
		t.Fatalf("%s: %d; want %d", call, got, want)
	}
}

func begins(t *testing.T, c *accord.Cluster, want int) {
	t.Helper()
	if tx, e := c.Begin(); tx != want || e != api.OK {
		t.Fatalf("Begin = %d, %d; want %d", tx, e, want)
	}
}

func delivers(t *testing.T, c *accord.Cluster, i ...int) {
	t.Helper()
	for _, i := range i {
		answers(t, "Deliver", c.Deliver(i), api.OK)
	}
}

func ticks(t *testing.T, c *accord.Cluster, n int) {
	t.Helper()
	for range n {
		answers(t, "Tick", c.Tick(), api.OK)
	}
}

func msg(kind, from, to, tx int) api.Message {
	return api.Message{Kind: kind, From: from, To: to, Tx: tx}
}

func rec(kind, tx int) api.Record { return api.Record{Kind: kind, Tx: tx} }

func texts(messages []api.Message) []string {
	var all []string
	for _, m := range messages {
		all = append(all, messageText(m))
	}
	return all
}

func underWay(t *testing.T, c *accord.Cluster, want ...api.Message) {
	t.Helper()
	if got, e := c.Net(); e != api.OK || !slices.Equal(got, texts(want)) {
		t.Errorf("Net = %x, %d; want %x (%v)", got, e, texts(want), want)
	}
}

// logs looks at a node's log, and at how many of its records are safe.
func logs(t *testing.T, c *accord.Cluster, node, safe int, want ...api.Record) {
	t.Helper()
	text, n, e := c.Log(node)
	if e != api.OK || text != logText(want...) || n != len(logText(want[:safe]...)) {
		t.Errorf("Log(%d) = %x, %d, %d; want %v, %d of them safe", node, text, n, e, want, safe)
	}
}

// says looks at what the nodes say of a transaction, from the coordinator on.
func says(t *testing.T, c *accord.Cluster, tx int, want ...int) {
	t.Helper()
	for node, w := range want {
		if got, e := c.Outcome(node, tx); got != w || e != api.OK {
			t.Errorf("Outcome(%d, %d) = %d, %d; want %d", node, tx, got, e, w)
		}
	}
}

// view is all that a cluster shows.
type view struct {
	net      []string
	logs     []string
	safe     []int
	outcomes []int
}

func look(c *accord.Cluster) view {
	var v view
	v.net, _ = c.Net()
	for node := range api.MaxNodes + 1 {
		text, safe, e := c.Log(node)
		v.logs, v.safe = append(v.logs, text), append(v.safe, safe, int(e))
		for tx := range api.MaxTx + 2 {
			says, e := c.Outcome(node, tx)
			v.outcomes = append(v.outcomes, says, int(e))
		}
	}
	return v
}

func (v view) same(w view) bool {
	return slices.Equal(v.net, w.net) && slices.Equal(v.logs, w.logs) &&
		slices.Equal(v.safe, w.safe) && slices.Equal(v.outcomes, w.outcomes)
}

func unchanged(t *testing.T, c *accord.Cluster, before view) {
	t.Helper()
	if after := look(c); !after.same(before) {
		t.Errorf("the cluster was %x and became %x", before, after)
	}
}

func TestNewRefusesSettings(t *testing.T) {
	for _, g := range []api.Config{
		{}, {Wait: 1}, {Sorts: []int{}, Wait: 1}, {Sorts: make([]int, api.MaxNodes+1), Wait: 1}, {Sorts: make([]int, 1000), Wait: 1},
		{Sorts: []int{0}}, {Sorts: []int{0}, Wait: -1}, {Sorts: []int{0}, Wait: api.MaxWait + 1},
		{Sorts: []int{0}, Wait: math.MinInt}, {Sorts: []int{0}, Wait: math.MaxInt},
		{Sorts: []int{-1}, Wait: 1}, {Sorts: []int{3}, Wait: 1}, {Sorts: []int{0, 1, 2, 2, 1, 3}, Wait: 1},
		{Sorts: []int{math.MinInt, 0}, Wait: 1}, {Sorts: []int{1, math.MaxInt, 1}, Wait: 1},
	} {
		if c, e := accord.New(g); c != nil || e != api.ErrConfig {
			t.Errorf("New(%v) = %v, %d", g, c, e)
		}
	}
}

func TestNewGivesAnEmptyCluster(t *testing.T) {
	for n := 1; n <= api.MaxNodes; n++ {
		for _, wait := range []int{1, 2, api.MaxWait} {
			c := cluster(t, wait, []int{0, 1, 2, 2, 1, 0}[:n]...)
			underWay(t, c)
			for node := range n + 1 {
				logs(t, c, node, 0)
			}
			ticks(t, c, 3)
			underWay(t, c)
			begins(t, c, 1)
			says(t, c, 1, []int{api.Open, 0, 0, 0, 0, 0, 0}[:n+1]...)
		}
	}
}

// The list of sorts is the caller's own again when New has answered.
func TestNewKeepsNoList(t *testing.T) {
	sorts := []int{api.Aborts, api.Nothing, 9, 9}[:2]
	c, _ := accord.New(api.Config{Sorts: sorts, Wait: 1})
	if !slices.Equal(sorts[:4], []int{api.Aborts, api.Nothing, 9, 9}) {
		t.Errorf("New changed its list: %v", sorts[:4])
	}
	sorts[0], sorts[1] = api.Commits, api.Aborts
	begins(t, c, 1)
	logs(t, c, 0, 0)
	ticks(t, c, 1)
	logs(t, c, 0, 1, rec(api.Aborted, 1))
	delivers(t, c, 2, 2)
	underWay(t, c, msg(api.Prepare, 0, 1, 1), msg(api.Prepare, 0, 2, 1), msg(api.Ack, 2, 0, 1))
}

func TestVote(t *testing.T) {
	c := cluster(t, 5, 0, 0)
	before := look(c)
	for _, node := range []int{0, -1, 3, api.MaxNodes, math.MinInt, math.MaxInt} {
		for _, tx := range []int{1, 0, api.MaxTx + 1} {
			answers(t, "Vote of no participant", c.Vote(node, tx, false), api.ErrNode)
		}
	}
	for _, tx := range []int{0, -1, api.MaxTx + 1, math.MinInt, math.MaxInt} {
		answers(t, "Vote on no transaction", c.Vote(1, tx, false), api.ErrTx)
		answers(t, "Vote on no transaction", c.Vote(2, tx, true), api.ErrTx)
	}
	unchanged(t, c, before)
	answers(t, "Vote", c.Vote(1, 1, false), api.OK)
	answers(t, "Vote", c.Vote(2, api.MaxTx, false), api.OK)
	answers(t, "Vote", c.Vote(1, 2, false), api.OK)
	answers(t, "Vote", c.Vote(1, 2, true), api.OK)
	unchanged(t, c, before)
	begins(t, c, 1)
	begins(t, c, 2)
	delivers(t, c, 0, 0, 0, 0)
	underWay(t, c, msg(api.No, 1, 0, 1), msg(api.Yes, 2, 0, 1), msg(api.Yes, 1, 0, 2), msg(api.Yes, 2, 0, 2))
	for tx := 3; tx <= api.MaxTx; tx++ {
		begins(t, c, tx)
	}
	delivers(t, c, 4+2*(api.MaxTx-2)-1)
	logs(t, c, 2, 3, rec(api.Prepared, 1), rec(api.Prepared, 2), rec(api.Aborted, api.MaxTx))
}

func TestBegin(t *testing.T) {
	c := cluster(t, 2, api.Commits)
	for tx := 1; tx <= api.MaxTx; tx++ {
		if _, e := c.Outcome(0, tx); e != api.ErrTx {
			t.Errorf("Outcome(0, %d) before it began: %d", tx, e)
		}
		begins(t, c, tx)
		says(t, c, tx, api.Open, api.None)
	}
	before := look(c)
	for range 3 {
		if tx, e := c.Begin(); tx != 0 || e != api.ErrMany {
			t.Errorf("Begin of one too many = %d, %d", tx, e)
		}
	}
	unchanged(t, c, before)
}

func TestNodesThatAreNone(t *testing.T) {
	c := cluster(t, 2, 0, 1)
	begins(t, c, 1)
	for _, node := range []int{-1, 3, api.MaxNodes, math.MinInt, math.MaxInt} {
		if text, safe, e := c.Log(node); text != "" || safe != 0 || e != api.ErrNode {
			t.Errorf("Log(%d) = %x, %d, %d", node, text, safe, e)
		}
		for _, tx := range []int{1, 2, 0, math.MinInt} {
			if says, e := c.Outcome(node, tx); says != 0 || e != api.ErrNode {
				t.Errorf("Outcome(%d, %d) = %d, %d", node, tx, says, e)
			}
		}
	}
	for node := range 3 {
		for _, tx := range []int{0, 2, -1, api.MaxTx, math.MinInt, math.MaxInt} {
			if says, e := c.Outcome(node, tx); says != 0 || e != api.ErrTx {
				t.Errorf("Outcome(%d, %d) = %d, %d", node, tx, says, e)
			}
		}
	}
}

func TestMessagesThatAreNone(t *testing.T) {
	c := cluster(t, 2, 0, 1)
	none := func(i ...int) {
		t.Helper()
		before := look(c)
		for _, i := range append(i, -1, math.MinInt, math.MaxInt, api.MaxNet) {
			answers(t, "Deliver", c.Deliver(i), api.ErrIndex)
			answers(t, "Lose", c.Lose(i), api.ErrIndex)
			answers(t, "Double", c.Double(i), api.ErrIndex)
		}
		unchanged(t, c, before)
	}
	none(0, 1)
	begins(t, c, 1)
	none(2, 3)
	for range api.MaxNet - 2 {
		answers(t, "Double", c.Double(1), api.OK)
	}
	none()
}

func TestLoseAndDouble(t *testing.T) {
	c := cluster(t, 2, 0, 1, 2)
	begins(t, c, 1)
	first, second, third := msg(api.Prepare, 0, 1, 1), msg(api.Prepare, 0, 2, 1), msg(api.Prepare, 0, 3, 1)
	answers(t, "Double", c.Double(1), api.OK)
	underWay(t, c, first, second, third, second)
	answers(t, "Lose", c.Lose(1), api.OK)
	underWay(t, c, first, third, second)
	answers(t, "Lose", c.Lose(2), api.OK)
	answers(t, "Double", c.Double(0), api.OK)
	underWay(t, c, first, third, first)
	answers(t, "Lose", c.Lose(0), api.OK)
	underWay(t, c, third, first)
	logs(t, c, 1, 0)
	says(t, c, 1, api.Open, api.None, api.None, api.None)
}

// What arrives makes room for what it brings about.
func TestNetIsBounded(t *testing.T) {
	c := cluster(t, 3, api.Nothing, api.Aborts, api.Commits)
	begins(t, c, 1)
	for range api.MaxNet - 3 {
		answers(t, "Double", c.Double(2), api.OK)
	}
	full := look(c)
	answers(t, "Double when the net is full", c.Double(0), api.ErrMany)
	unchanged(t, c, full)
	begins(t, c, 2)
	says(t, c, 2, api.Open, api.None, api.None, api.None)
	logs(t, c, 0, 2, rec(api.Began, 1), rec(api.Began, 2))
	ticks(t, c, 1)
	if got := look(c).net; !slices.Equal(got, full.net) {
		t.Errorf("into a full net came %x", got)
	}
	delivers(t, c, 0)
	endsWith := func(m api.Message) {
		t.Helper()
		want := append(slices.Clone(full.net[1:]), messageText(m))
		if got := look(c).net; !slices.Equal(got, want) {
			t.Errorf("the net is %x; want %x", got, want)
		}
	}
	endsWith(msg(api.Yes, 1, 0, 1))
	// Of what is sent at a tick the first finds the one place.
	for _, first := range []int{api.Prepare, api.Abort} {
		answers(t, "Lose", c.Lose(api.MaxNet-1), api.OK)
		ticks(t, c, 1)
		endsWith(msg(first, 0, 1, 1))
	}
	answers(t, "Double when the net is full", c.Double(api.MaxNet-1), api.ErrMany)
}

// A message that answers one finds room, but not all of several do.
func TestDecisionIntoAFullNet(t *testing.T) {
	c := cluster(t, 3, api.Nothing, api.Nothing, api.Nothing)
	begins(t, c, 1)
	delivers(t, c, 0, 0, 0)
	delivers(t, c, 0, 0)
	for range api.MaxNet - 1 {
		answers(t, "Double", c.Double(0), api.OK)
	}
	delivers(t, c, 50)
	net, _ := c.Net()
	if len(net) != api.MaxNet || net[98] != messageText(msg(api.Yes, 3, 0, 1)) || net[99] != messageText(msg(api.Commit, 0, 1, 1)) {
		t.Errorf("under way are %d, the last %x", len(net), net[len(net)-1])
	}
	// What was lost comes with a tick.
	for range api.MaxNet {
		answers(t, "Lose", c.Lose(0), api.OK)
	}
	ticks(t, c, 1)
	underWay(t, c, msg(api.Commit, 0, 1, 1), msg(api.Commit, 0, 2, 1), msg(api.Commit, 0, 3, 1),
		msg(api.Inquire, 1, 0, 1), msg(api.Inquire, 2, 0, 1), msg(api.Inquire, 3, 0, 1))
}

func TestNetGivesNewMemory(t *testing.T) {
	c := cluster(t, 2, 0, 1, 2)
	begins(t, c, 1)
	first, _ := c.Net()
	second, _ := c.Net()
	room := first[:cap(first)]
	for i := range room {
		room[i] = "mine"
	}
	if slices.Contains(second[:cap(second)], "mine") {
		t.Error("two answers share memory")
	}
	underWay(t, c, msg(api.Prepare, 0, 1, 1), msg(api.Prepare, 0, 2, 1), msg(api.Prepare, 0, 3, 1))
}

func TestNilCluster(t *testing.T) {
	var c *accord.Cluster
	for _, n := range []int{0, 1, -1, 99, math.MinInt, math.MaxInt} {
		answers(t, "Vote", c.Vote(n, n, true), api.ErrNil)
		answers(t, "Deliver", c.Deliver(n), api.ErrNil)
		answers(t, "Lose", c.Lose(n), api.ErrNil)
		answers(t, "Double", c.Double(n), api.ErrNil)
		answers(t, "Crash", c.Crash(n, n), api.ErrNil)
		answers(t, "Restart", c.Restart(n), api.ErrNil)
		if text, safe, e := c.Log(n); text != "" || safe != 0 || e != api.ErrNil {
			t.Errorf("Log(%d) = %x, %d, %d", n, text, safe, e)
		}
		if says, e := c.Outcome(n, n); says != 0 || e != api.ErrNil {
			t.Errorf("Outcome(%d, %d) = %d, %d", n, n, says, e)
		}
	}
	answers(t, "Tick", c.Tick(), api.ErrNil)
	if tx, e := c.Begin(); tx != 0 || e != api.ErrNil {
		t.Errorf("Begin = %d, %d", tx, e)
	}
	if net, e := c.Net(); net != nil || e != api.ErrNil {
		t.Errorf("Net = %x, %d", net, e)
	}
}

func TestClustersHaveNothingInCommon(t *testing.T) {
	c, d := cluster(t, 3, api.Nothing, api.Commits), cluster(t, 3, api.Nothing, api.Commits)
	before := look(d)
	answers(t, "Vote", c.Vote(1, 1, false), api.OK)
	begins(t, c, 1)
	begins(t, c, 2)
	delivers(t, c, 0, 0, 1)
	ticks(t, c, 1)
	unchanged(t, d, before)
	before = look(c)
	begins(t, d, 1)
	delivers(t, d, 0, 0)
	underWay(t, d, msg(api.Yes, 1, 0, 1), msg(api.Yes, 2, 0, 1))
	ticks(t, d, 3)
	unchanged(t, c, before)
}

// What nodes send at a tick comes node by node, whichever is done first.
func TestTickSendsNodeByNode(t *testing.T) {
	var first view
	for i := range 50 {
		c := cluster(t, 2, 0, 1, 2, 0, 1, 2)
		for tx := 1; tx <= 3; tx++ {
			begins(t, c, tx)
		}
		delivers(t, c, 17, 15, 14, 12, 9, 8, 4, 3, 0)
		ticks(t, c, 2)
		if i == 0 {
			first = look(c)
		}
		unchanged(t, c, first)
	}
	c := cluster(t, 9, 0, 0, 0)
	begins(t, c, 1)
	begins(t, c, 2)
	delivers(t, c, 5, 4, 2, 1)
	for range 6 {
		answers(t, "Lose", c.Lose(0), api.OK)
	}
	ticks(t, c, 1)
	underWay(t, c,
		msg(api.Prepare, 0, 1, 1), msg(api.Prepare, 0, 2, 1), msg(api.Prepare, 0, 3, 1),
		msg(api.Prepare, 0, 1, 2), msg(api.Prepare, 0, 2, 2), msg(api.Prepare, 0, 3, 2),
		msg(api.Inquire, 2, 0, 1), msg(api.Inquire, 2, 0, 2), msg(api.Inquire, 3, 0, 1), msg(api.Inquire, 3, 0, 2))
}

func TestTickLeavesNoGoroutine(t *testing.T) {
	c := cluster(t, 20, 0, 1, 2, 0, 1, 2)
	begins(t, c, 1)
	before := runtime.NumGoroutine()
	ticks(t, c, 500)
	// One that has answered may still be on its way out of the count.
	for i := 0; runtime.NumGoroutine() > before && i < 1000; i++ {
		runtime.Gosched()
	}
	if after := runtime.NumGoroutine(); after > before {
		t.Errorf("there were %d goroutines and are %d", before, after)
	}
}
