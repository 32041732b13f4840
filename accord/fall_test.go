package accord_test

import (
	"math"
	"slices"
	"testing"

	"accord/accord"
	"accord/api"
)

func falls(t *testing.T, c *accord.Cluster, node, keep int) {
	t.Helper()
	answers(t, "Crash", c.Crash(node, keep), api.OK)
}

func comesAgain(t *testing.T, c *accord.Cluster, node int) {
	t.Helper()
	answers(t, "Restart", c.Restart(node), api.OK)
}

func loses(t *testing.T, c *accord.Cluster, n int) {
	t.Helper()
	for range n {
		answers(t, "Lose", c.Lose(0), api.OK)
	}
}

// hasLog looks at a node's log as bytes.
func hasLog(t *testing.T, c *accord.Cluster, node int, want string, size int) {
	t.Helper()
	if text, safe, e := c.Log(node); text != want || safe != size || e != api.OK {
		t.Errorf("Log(%d) = %x, %d, %d; want %x, %d", node, text, safe, e, want, size)
	}
}

func isDown(t *testing.T, c *accord.Cluster, node, tx int) {
	t.Helper()
	if says, e := c.Outcome(node, tx); says != 0 || e != api.ErrDown {
		t.Errorf("Outcome(%d, %d) of a node that is down = %d, %d", node, tx, says, e)
	}
}

func TestExampleOfAFall(t *testing.T) {
	c := cluster(t, 3, api.Aborts, api.Commits)
	begins(t, c, 1)
	delivers(t, c, 0, 0, 0, 0, 0, 0)
	underWay(t, c, msg(api.Ack, 1, 0, 1))
	says(t, c, 1, api.Open, api.Taken, api.Taken)
	falls(t, c, 2, 0)
	isDown(t, c, 2, 1)
	comesAgain(t, c, 2)
	says(t, c, 1, api.Open, api.Taken, api.Open)
	ticks(t, c, 1)
	underWay(t, c, msg(api.Ack, 1, 0, 1), msg(api.Commit, 0, 1, 1), msg(api.Inquire, 2, 0, 1))
	delivers(t, c, 2, 2)
	says(t, c, 1, api.Open, api.Taken, api.Taken)
}

func TestCrashErrors(t *testing.T) {
	c := cluster(t, 3, api.Nothing, api.Commits)
	begins(t, c, 1)
	delivers(t, c, 0)
	refuses := func() {
		t.Helper()
		before := look(c)
		for _, keep := range []int{0, 1, -1, math.MinInt, math.MaxInt} {
			for _, node := range []int{-1, 3, api.MaxNodes, math.MinInt, math.MaxInt} {
				answers(t, "Crash of no node", c.Crash(node, keep), api.ErrNode)
			}
		}
		for node := range 3 {
			for _, keep := range []int{-1, -2, math.MinInt} {
				answers(t, "Crash, keeping less than nothing", c.Crash(node, keep), api.ErrArg)
			}
		}
		unchanged(t, c, before)
	}
	refuses()
	for node := range 3 {
		falls(t, c, node, node)
		before := look(c)
		for _, keep := range []int{0, 1, math.MaxInt} {
			answers(t, "Crash of a node that is down", c.Crash(node, keep), api.ErrDown)
		}
		unchanged(t, c, before)
		refuses()
	}
	comesAgain(t, c, 1)
	falls(t, c, 1, math.MaxInt)
}

func TestRestartErrors(t *testing.T) {
	c := cluster(t, 3, api.Nothing, api.Commits)
	begins(t, c, 1)
	refuses := func(up ...int) {
		t.Helper()
		before := look(c)
		for _, node := range []int{-1, 3, api.MaxNodes, math.MinInt, math.MaxInt} {
			answers(t, "Restart of no node", c.Restart(node), api.ErrNode)
		}
		for _, node := range up {
			answers(t, "Restart of a node that is up", c.Restart(node), api.ErrUp)
		}
		unchanged(t, c, before)
	}
	refuses(0, 1, 2)
	falls(t, c, 0, 0)
	refuses(1, 2)
	falls(t, c, 2, 0)
	refuses(1)
	falls(t, c, 1, 0)
	refuses()
	comesAgain(t, c, 2)
	refuses(2)
	comesAgain(t, c, 0)
	comesAgain(t, c, 1)
	refuses(0, 1, 2)
}

func TestOutcomeErrorsWhileDown(t *testing.T) {
	c := cluster(t, 3, api.Nothing, api.Commits)
	begins(t, c, 1)
	for node := range 3 {
		falls(t, c, node, 0)
	}
	before := look(c)
	for _, node := range []int{-1, 3, math.MinInt, math.MaxInt} {
		for _, tx := range []int{0, 1, 2} {
			if says, e := c.Outcome(node, tx); says != 0 || e != api.ErrNode {
				t.Errorf("Outcome(%d, %d) = %d, %d", node, tx, says, e)
			}
		}
	}
	for node := range 3 {
		for _, tx := range []int{-1, 0, 2, api.MaxTx, math.MinInt, math.MaxInt} {
			if says, e := c.Outcome(node, tx); says != 0 || e != api.ErrTx {
				t.Errorf("Outcome(%d, %d) = %d, %d", node, tx, says, e)
			}
		}
		isDown(t, c, node, 1)
	}
	unchanged(t, c, before)
}

func TestBeginWhileDown(t *testing.T) {
	for _, sort := range []int{api.Nothing, api.Aborts, api.Commits} {
		c := cluster(t, 3, sort)
		refuses := func(want api.Errno) {
			t.Helper()
			before := look(c)
			if tx, e := c.Begin(); tx != 0 || e != want {
				t.Errorf("Begin while the coordinator is down = %d, %d; want %d", tx, e, want)
			}
			unchanged(t, c, before)
		}
		falls(t, c, 0, 0)
		refuses(api.ErrDown)
		comesAgain(t, c, 0)
		begins(t, c, 1)
		// The number is the cluster's, also where no log tells of the first one.
		falls(t, c, 0, 0)
		refuses(api.ErrDown)
		comesAgain(t, c, 0)
		falls(t, c, 1, 0)
		for tx := 2; tx <= api.MaxTx; tx++ {
			begins(t, c, tx)
		}
		refuses(api.ErrMany)
		falls(t, c, 0, 0)
		refuses(api.ErrMany)
		comesAgain(t, c, 0)
		refuses(api.ErrMany)
	}
}

// None, a piece, or all of what was not safe is left.
func TestWhatIsLeftOfALog(t *testing.T) {
	safe := logText(rec(api.Prepared, 1), rec(api.Prepared, 2))
	loose := logText(rec(api.Committed, 2), rec(api.Committed, 1))
	const size = 8 // of one record
	for keep := range 3 * size {
		c := cluster(t, 3, api.Commits)
		begins(t, c, 1)
		begins(t, c, 2)
		delivers(t, c, 0, 0, 1, 0)
		delivers(t, c, 0, 0)
		hasLog(t, c, 1, safe+loose, len(safe))
		falls(t, c, 1, keep)
		hasLog(t, c, 1, safe+loose[:min(keep, len(loose))], len(safe))
		isDown(t, c, 1, 1)
		comesAgain(t, c, 1)
		whole := safe + loose[:min(keep/size, 2)*size]
		hasLog(t, c, 1, whole, len(whole))
		says(t, c, 2, api.Taken, []int{api.Open, api.Taken, api.Taken}[keep/size])
		says(t, c, 1, api.Taken, []int{api.Open, api.Open, api.Taken}[keep/size])
		// What came through one fall is safe at the next.
		falls(t, c, 1, 0)
		hasLog(t, c, 1, whole, len(whole))
	}
	for _, keep := range []int{1 << 31, 1 << 32, math.MaxInt} {
		c := cluster(t, 1, api.Aborts)
		begins(t, c, 1)
		ticks(t, c, 1)
		falls(t, c, 0, keep)
		hasLog(t, c, 0, logText(rec(api.Aborted, 1), rec(api.Ended, 1)), 0)
		comesAgain(t, c, 0)
		logs(t, c, 0, 2, rec(api.Aborted, 1), rec(api.Ended, 1))
	}
}

// Of a long log, too, the first of what was not safe is left.
func TestWhatIsLeftOfALongLog(t *testing.T) {
	c := cluster(t, api.MaxWait, api.Commits)
	var records []api.Record
	for tx := 1; tx <= api.MaxTx; tx++ {
		begins(t, c, tx)
		records = append(records, rec(api.Began, tx))
	}
	falls(t, c, 0, 0)
	logs(t, c, 0, api.MaxTx, records...)
	comesAgain(t, c, 0)
	for tx := 1; tx <= api.MaxTx; tx++ {
		records = append(records, rec(api.Aborted, tx))
	}
	logs(t, c, 0, api.MaxTx, records...)
	falls(t, c, 0, 7*8+5)
	comesAgain(t, c, 0)
	// Those whose Aborted was kept are not decided once more.
	logs(t, c, 0, api.MaxTx+7, records...)
	says(t, c, api.MaxTx, api.Open, api.None)
}

func TestMessagesToANodeThatIsDownAreLost(t *testing.T) {
	c := cluster(t, 3, api.Nothing, api.Aborts)
	begins(t, c, 1)
	falls(t, c, 1, 0)
	delivers(t, c, 0)
	underWay(t, c, msg(api.Prepare, 0, 2, 1))
	hasLog(t, c, 1, "", 0)
	// The other nodes go on.
	delivers(t, c, 0)
	underWay(t, c, msg(api.Yes, 2, 0, 1))
	falls(t, c, 0, 0)
	answers(t, "Double", c.Double(0), api.OK)
	delivers(t, c, 1)
	underWay(t, c, msg(api.Yes, 2, 0, 1))
	// What is under way stays so while a node is down, and arrives if it is up then.
	falls(t, c, 2, 0)
	comesAgain(t, c, 0)
	begins(t, c, 2)
	comesAgain(t, c, 2)
	underWay(t, c, msg(api.Yes, 2, 0, 1), msg(api.Prepare, 0, 1, 2), msg(api.Prepare, 0, 2, 2))
	delivers(t, c, 2)
	underWay(t, c, msg(api.Yes, 2, 0, 1), msg(api.Prepare, 0, 1, 2), msg(api.Yes, 2, 0, 2))
	answers(t, "Lose", c.Lose(1), api.OK)
	comesAgain(t, c, 1)
	says(t, c, 1, api.None, api.None, api.Open)
	says(t, c, 2, api.Open, api.None, api.Open)
}

func TestNodesThatAreDownHaveNoTick(t *testing.T) {
	c := cluster(t, 3, api.Nothing, api.Commits, api.Nothing)
	begins(t, c, 1)
	delivers(t, c, 0, 0, 0)
	loses(t, c, 3)
	falls(t, c, 2, 0)
	ticks(t, c, 1)
	underWay(t, c, msg(api.Prepare, 0, 1, 1), msg(api.Prepare, 0, 2, 1), msg(api.Prepare, 0, 3, 1),
		msg(api.Inquire, 1, 0, 1), msg(api.Inquire, 3, 0, 1))
	loses(t, c, 5)
	falls(t, c, 0, 0)
	ticks(t, c, 10)
	logs(t, c, 0, 1, rec(api.Began, 1))
	loses(t, c, 20)
	comesAgain(t, c, 2)
	ticks(t, c, 1)
	underWay(t, c, msg(api.Inquire, 1, 0, 1), msg(api.Inquire, 2, 0, 1), msg(api.Inquire, 3, 0, 1))
	for node := 1; node <= 3; node++ {
		falls(t, c, node, 0)
	}
	before := look(c)
	ticks(t, c, 10)
	unchanged(t, c, before)
}

// Vote and Log are asked of the cluster, whether a node is up or down.
func TestVoteWhileDown(t *testing.T) {
	c := cluster(t, 3, api.Nothing)
	answers(t, "Vote", c.Vote(1, 1, false), api.OK)
	falls(t, c, 1, 0)
	answers(t, "Vote", c.Vote(1, 2, false), api.OK)
	answers(t, "Vote", c.Vote(0, 2, false), api.ErrNode)
	answers(t, "Vote", c.Vote(1, 0, false), api.ErrTx)
	comesAgain(t, c, 1)
	for tx := 1; tx <= 3; tx++ {
		begins(t, c, tx)
	}
	delivers(t, c, 0, 0, 0)
	underWay(t, c, msg(api.No, 1, 0, 1), msg(api.No, 1, 0, 2), msg(api.Yes, 1, 0, 3))
}

// What the coordinator sends when it comes again finds no room, and comes with
// a tick; where there is some, the first of it is sent.
func TestRestartIntoAFullNet(t *testing.T) {
	c := cluster(t, 3, api.Commits, api.Commits)
	begins(t, c, 1)
	for range api.MaxNet - 2 {
		answers(t, "Double", c.Double(0), api.OK)
	}
	full := look(c).net
	falls(t, c, 0, 0)
	comesAgain(t, c, 0)
	if net := look(c).net; !slices.Equal(net, full) {
		t.Errorf("into a full net came %x", net)
	}
	logs(t, c, 0, 1, rec(api.Began, 1), rec(api.Aborted, 1))
	loses(t, c, 1)
	falls(t, c, 0, 0)
	comesAgain(t, c, 0)
	want := append(slices.Clone(full[1:]), messageText(msg(api.Abort, 0, 1, 1)))
	if net := look(c).net; !slices.Equal(net, want) {
		t.Errorf("the net is %x; want %x", net, want)
	}
	loses(t, c, api.MaxNet)
	ticks(t, c, 1)
	underWay(t, c, msg(api.Abort, 0, 1, 1), msg(api.Abort, 0, 2, 1))
}

// A participant that forgot an abort which it presumes comes to it again.
func TestAbortThatIsForgotten(t *testing.T) {
	c := cluster(t, 1, api.Aborts)
	begins(t, c, 1)
	ticks(t, c, 1)
	delivers(t, c, 1)
	says(t, c, 1, api.Left, api.Left)
	falls(t, c, 1, 0)
	comesAgain(t, c, 1)
	says(t, c, 1, api.Left, api.None)
	// The Prepare was late.
	delivers(t, c, 0)
	says(t, c, 1, api.Left, api.Open)
	delivers(t, c, 0)
	ticks(t, c, 1)
	delivers(t, c, 0, 0)
	says(t, c, 1, api.Left, api.Left)
}

// A commit holds though the coordinator forgets who has acknowledged it.
func TestCommitHoldsThroughFalls(t *testing.T) {
	for _, sorts := range mixes(2, 3) {
		c := cluster(t, 2, sorts...)
		begins(t, c, 1)
		delivers(t, c, 0, 0, 0, 0)
		loses(t, c, 2)
		for node := range 3 {
			falls(t, c, node, 0)
		}
		for node := range 3 {
			comesAgain(t, c, node)
		}
		underWay(t, c)
		for range 2 {
			ticks(t, c, 1)
			for c.Deliver(0) == api.OK {
			}
		}
		says(t, c, 1, api.Taken, api.Taken, api.Taken)
	}
}

func TestFallsOfOneClusterAreItsOwn(t *testing.T) {
	c, d := cluster(t, 3, api.Nothing, api.Commits), cluster(t, 3, api.Nothing, api.Commits)
	begins(t, c, 1)
	begins(t, d, 1)
	before := look(d)
	for node := range 3 {
		falls(t, c, node, 0)
	}
	unchanged(t, d, before)
	comesAgain(t, c, 0)
	unchanged(t, d, before)
	answers(t, "Restart", d.Restart(1), api.ErrUp)
	delivers(t, d, 0)
}
