package nodes_test

import (
	"slices"
	"testing"

	"accord/api"
	"accord/nodes"
)

// out is a message of the coordinator's to each of these.
func out(kind, tx int, to ...int) []api.Message {
	var all []api.Message
	for _, node := range to {
		all = append(all, api.Message{Kind: kind, From: 0, To: node, Tx: tx})
	}
	return all
}

// gets lets messages of one kind come from each of these, and gives what the
// coordinator sends at the last of them; it must send nothing at the others.
func gets(t *testing.T, c *nodes.Coordinator, kind, tx int, from ...int) []api.Message {
	t.Helper()
	var sent []api.Message
	for _, node := range from {
		sends(t, sent)
		sent = c.Receive(api.Message{Kind: kind, From: node, To: 0, Tx: tx})
	}
	return sent
}

// same fails if the coordinator does anything at what comes.
func same(t *testing.T, c *nodes.Coordinator, tx int, comes ...api.Message) {
	t.Helper()
	text, safe := c.Log()
	before := c.Outcome(tx)
	for _, m := range comes {
		if sent := c.Receive(m); len(sent) > 0 {
			t.Errorf("at %v it sends %v", m, sent)
		}
	}
	if log, n := c.Log(); log != text || n != safe {
		t.Errorf("at %v the log became %x, %d; it was %x, %d", comes, log, n, text, safe)
	}
	says(t, c, tx, before)
}

// from is a message of each of these kinds, of each of these participants.
func from(tx int, kinds []int, nodes ...int) []api.Message {
	var all []api.Message
	for _, kind := range kinds {
		for _, node := range nodes {
			all = append(all, api.Message{Kind: kind, From: node, To: 0, Tx: tx})
		}
	}
	return all
}

func TestCoordinatorBegins(t *testing.T) {
	for _, sorts := range [][]int{{api.Nothing}, {api.Aborts}, {api.Aborts, api.Nothing, api.Nothing, api.Aborts}} {
		c := nodes.NewCoordinator(sorts, 3)
		says(t, c, 1, api.None)
		sends(t, c.Begin(1), out(api.Prepare, 1, []int{1, 2, 3, 4}[:len(sorts)]...)...)
		logs(t, c, 0)
		says(t, c, 1, api.Open)
	}
	for _, sorts := range [][]int{{api.Commits}, {api.Commits, api.Aborts}, {api.Nothing, api.Nothing, api.Commits}} {
		c := nodes.NewCoordinator(sorts, 3)
		sends(t, c.Begin(1), out(api.Prepare, 1, []int{1, 2, 3}[:len(sorts)]...)...)
		logs(t, c, 1, rec(api.Began, 1))
		c.Begin(2)
		logs(t, c, 2, rec(api.Began, 1), rec(api.Began, 2))
		says(t, c, 1, api.Open)
		says(t, c, 2, api.Open)
		says(t, c, 3, api.None)
	}
}

func TestCoordinatorKeepsNoList(t *testing.T) {
	sorts := []int{api.Aborts, api.Aborts}
	c := nodes.NewCoordinator(sorts, 1)
	sorts[0], sorts[1] = api.Commits, api.Nothing
	c.Begin(1)
	logs(t, c, 0)
	c.Tick()
	logs(t, c, 0, rec(api.Aborted, 1), rec(api.Ended, 1))
}

// commits brings a new coordinator to decide the transaction 1: Commit.
func commits(t *testing.T, sorts ...int) *nodes.Coordinator {
	t.Helper()
	c := nodes.NewCoordinator(sorts, 3)
	c.Begin(1)
	all := []int{1, 2, 3, 4, 5, 6}[:len(sorts)]
	slices.Reverse(all)
	sent := gets(t, c, api.Yes, 1, all...)
	slices.Reverse(all)
	sends(t, sent, out(api.Commit, 1, all...)...)
	return c
}

func TestCoordinatorCommits(t *testing.T) {
	began, committed, ended := rec(api.Began, 1), rec(api.Committed, 1), rec(api.Ended, 1)
	logs(t, commits(t, api.Nothing), 1, committed)
	logs(t, commits(t, api.Aborts), 1, committed)
	logs(t, commits(t, api.Commits), 2, began, committed, ended)
	logs(t, commits(t, api.Commits, api.Commits), 2, began, committed, ended)
	logs(t, commits(t, api.Aborts, api.Nothing), 1, committed)
	for _, sort := range []int{api.Nothing, api.Aborts} {
		c := commits(t, api.Commits, sort, api.Commits, sort)
		logs(t, c, 2, began, committed)
		says(t, c, 1, api.Open)
		sends(t, c.Tick(), out(api.Commit, 1, 2, 4)...)
		same(t, c, 1, from(1, []int{api.Ack}, 1, 3)...)
		sends(t, gets(t, c, api.Ack, 1, 4, 4))
		sends(t, c.Tick(), out(api.Commit, 1, 2)...)
		logs(t, c, 2, began, committed)
		sends(t, gets(t, c, api.Ack, 1, 2))
		logs(t, c, 2, began, committed, ended)
		says(t, c, 1, api.Taken)
		sends(t, c.Tick())
	}
}

func TestCoordinatorCountsEachVoteOnce(t *testing.T) {
	c := nodes.NewCoordinator([]int{api.Nothing, api.Nothing, api.Nothing}, 9)
	c.Begin(1)
	c.Begin(2)
	sends(t, gets(t, c, api.Yes, 1, 2, 2, 2, 3, 2, 3))
	// A vote on another transaction is not one on this.
	sends(t, gets(t, c, api.Yes, 2, 1))
	says(t, c, 1, api.Open)
	logs(t, c, 0)
	sends(t, c.Tick(), append(out(api.Prepare, 1, 1), out(api.Prepare, 2, 2, 3)...)...)
	sends(t, gets(t, c, api.Yes, 1, 1), out(api.Commit, 1, 1, 2, 3)...)
	sends(t, gets(t, c, api.Yes, 2, 3, 2), out(api.Commit, 2, 1, 2, 3)...)
	logs(t, c, 2, rec(api.Committed, 1), rec(api.Committed, 2))
}

// refused is what becomes of a transaction to which one says no.
type refused struct {
	sorts  []int
	by     int
	told   []int // in the order in which Abort is sent
	awaits []int
	forced bool
}

func TestCoordinatorAbortsAtNo(t *testing.T) {
	const nothing, aborts, commits = api.Nothing, api.Aborts, api.Commits
	for _, r := range []refused{
		{[]int{nothing}, 1, nil, nil, true},
		{[]int{aborts}, 1, nil, nil, false},
		{[]int{commits}, 1, nil, nil, false},
		{[]int{aborts, aborts, aborts}, 2, []int{1, 3}, nil, false},
		{[]int{commits, aborts, commits}, 1, []int{2, 3}, []int{3}, false},
		{[]int{commits, aborts, commits}, 2, []int{1, 3}, []int{1, 3}, false},
		// Who is left out is a participant all the same.
		{[]int{aborts, nothing, aborts}, 2, []int{1, 3}, nil, true},
		{[]int{nothing, aborts, nothing, commits}, 1, []int{2, 3, 4}, []int{3, 4}, true},
		{[]int{aborts, commits, nothing, aborts, nothing, commits}, 6, []int{1, 2, 3, 4, 5}, []int{2, 3, 5}, true},
	} {
		for _, voted := range [][]int{nil, r.told} {
			r.try(t, voted)
		}
	}
}

func (r refused) try(t *testing.T, voted []int) {
	t.Helper()
	c := nodes.NewCoordinator(r.sorts, 2)
	c.Begin(1)
	sends(t, gets(t, c, api.Yes, 1, voted...))
	sends(t, gets(t, c, api.No, 1, r.by), out(api.Abort, 1, r.told...)...)
	var want []api.Record
	if slices.Contains(r.sorts, api.Commits) {
		want = append(want, rec(api.Began, 1))
	}
	safe := len(want)
	want = append(want, rec(api.Aborted, 1))
	if r.forced {
		safe++
	}
	for i, node := range r.awaits {
		logs(t, c, safe, want...)
		says(t, c, 1, api.Open)
		sends(t, c.Tick(), out(api.Abort, 1, r.awaits[i:]...)...)
		// The one that is left out knows the outcome, and may still ask again.
		same(t, c, 1, from(1, []int{api.Yes, api.No, api.Ack}, r.by)...)
		sends(t, gets(t, c, api.Ack, 1, node))
	}
	logs(t, c, safe, append(want, rec(api.Ended, 1))...)
	says(t, c, 1, api.Left)
	sends(t, c.Tick())
}

func TestCoordinatorWaits(t *testing.T) {
	for _, wait := range []int{1, 2, 5, api.MaxWait} {
		c := nodes.NewCoordinator([]int{api.Nothing, api.Commits, api.Aborts}, wait)
		c.Begin(1)
		sends(t, gets(t, c, api.Yes, 1, 2))
		for range wait - 1 {
			sends(t, c.Tick(), out(api.Prepare, 1, 1, 3)...)
			logs(t, c, 1, rec(api.Began, 1))
		}
		// Nobody is left out, not even who has voted.
		sends(t, c.Tick(), out(api.Abort, 1, 1, 2, 3)...)
		logs(t, c, 2, rec(api.Began, 1), rec(api.Aborted, 1))
		says(t, c, 1, api.Open)
		same(t, c, 1, from(1, []int{api.Yes}, 1, 3)...)
		for range wait + 1 {
			sends(t, c.Tick(), out(api.Abort, 1, 1, 2)...)
		}
		sends(t, gets(t, c, api.Ack, 1, 2, 1))
		says(t, c, 1, api.Left)
	}
}

func TestCoordinatorWaitsWithoutForce(t *testing.T) {
	c := nodes.NewCoordinator([]int{api.Aborts, api.Commits}, 1)
	c.Begin(1)
	sends(t, c.Tick(), out(api.Abort, 1, 1, 2)...)
	logs(t, c, 1, rec(api.Began, 1), rec(api.Aborted, 1))
	sends(t, c.Tick(), out(api.Abort, 1, 2)...)
	// The next force makes safe what was left.
	c.Begin(2)
	logs(t, c, 3, rec(api.Began, 1), rec(api.Aborted, 1), rec(api.Began, 2))
}

// Each transaction waits for itself, and all have their tick by rising numbers.
func TestCoordinatorTicksByRisingNumbers(t *testing.T) {
	c := nodes.NewCoordinator([]int{api.Aborts, api.Nothing}, 2)
	sends(t, c.Tick())
	for tx := 1; tx <= 12; tx++ {
		c.Begin(tx)
	}
	gets(t, c, api.Yes, 3, 1, 2)
	gets(t, c, api.No, 7, 1)
	gets(t, c, api.Yes, 9, 2)
	gets(t, c, api.No, 11, 2)
	var want []api.Message
	for _, tx := range []int{1, 2} {
		want = append(want, out(api.Prepare, tx, 1, 2)...)
	}
	want = append(want, out(api.Commit, 3, 1, 2)...)
	for _, tx := range []int{4, 5, 6} {
		want = append(want, out(api.Prepare, tx, 1, 2)...)
	}
	want = append(want, out(api.Abort, 7, 2)...)
	want = append(want, out(api.Prepare, 8, 1, 2)...)
	want = append(want, out(api.Prepare, 9, 1)...)
	want = append(want, out(api.Prepare, 10, 1, 2)...)
	want = append(want, out(api.Prepare, 12, 1, 2)...)
	sends(t, c.Tick(), want...)
	c.Begin(13)
	want = nil
	for tx := 1; tx <= 12; tx++ {
		switch tx {
		case 3:
			want = append(want, out(api.Commit, 3, 1, 2)...)
		case 7:
			want = append(want, out(api.Abort, 7, 2)...)
		case 11: // it is over: nobody's Ack was waited for
		default:
			want = append(want, out(api.Abort, tx, 1, 2)...)
		}
	}
	want = append(want, out(api.Prepare, 13, 1, 2)...)
	sends(t, c.Tick(), want...)
}

func TestCoordinatorAnswersWhoAsks(t *testing.T) {
	sorts := []int{api.Nothing, api.Aborts, api.Commits}
	asks := func(c *nodes.Coordinator, want ...int) {
		t.Helper()
		for i, outcome := range want {
			text, safe := c.Log()
			sends(t, gets(t, c, api.Inquire, 1, i+1), out(outcome, 1, i+1)...)
			if log, n := c.Log(); log != text || n != safe {
				t.Errorf("an answer changed the log: %x, %d", log, n)
			}
		}
	}
	byItsSort := []int{api.Abort, api.Abort, api.Commit}

	c := nodes.NewCoordinator(sorts, 2)
	asks(c, byItsSort...)
	c.Begin(1)
	same(t, c, 1, from(1, []int{api.Inquire}, 1, 2, 3)...)
	gets(t, c, api.Yes, 1, 1, 2, 3)
	asks(c, api.Commit, api.Commit, api.Commit)
	gets(t, c, api.Ack, 1, 2)
	asks(c, api.Commit, api.Commit, api.Commit)
	gets(t, c, api.Ack, 1, 1)
	asks(c, byItsSort...)
	says(t, c, 1, api.Taken)

	c = nodes.NewCoordinator(sorts, 2)
	c.Begin(1)
	gets(t, c, api.No, 1, 3)
	asks(c, api.Abort, api.Abort, api.Abort)
	gets(t, c, api.Ack, 1, 1)
	asks(c, byItsSort...)
	says(t, c, 1, api.Left)
}

// state is a coordinator, and what it passes over about the transaction 1.
type state struct {
	c     *nodes.Coordinator
	kinds []int
}

func TestCoordinatorAtMessagesThatAreNothingToIt(t *testing.T) {
	sorts := []int{api.Nothing, api.Commits}
	never := []int{-1, 0, api.Prepare, api.Commit, api.Abort, 8}
	fresh := nodes.NewCoordinator(sorts, 5)
	collecting := nodes.NewCoordinator(sorts, 5)
	collecting.Begin(1)
	over := commits(t, sorts...)
	gets(t, over, api.Ack, 1, 1)
	aborted := nodes.NewCoordinator(sorts, 5)
	aborted.Begin(1)
	gets(t, aborted, api.No, 1, 2)
	for _, s := range []state{
		{fresh, []int{api.Yes, api.No, api.Ack}},
		{collecting, []int{api.Ack, api.Inquire}},
		{commits(t, sorts...), []int{api.Yes, api.No}},
		{aborted, []int{api.Yes, api.No}},
		{over, []int{api.Yes, api.No, api.Ack}},
	} {
		same(t, s.c, 1, from(1, s.kinds, 1, 2)...)
		same(t, s.c, 1, from(1, never, 1, 2)...)
		// No participant has such a number.
		same(t, s.c, 1, from(1, allKinds, -1, 0, 3, 6, 7, 1<<40)...)
		// A transaction of which it knows nothing.
		same(t, s.c, 1, from(2, []int{api.Yes, api.No, api.Ack}, 1, 2)...)
		says(t, s.c, 2, api.None)
	}
	sends(t, fresh.Tick())
	sends(t, collecting.Tick(), out(api.Prepare, 1, 1, 2)...)
	sends(t, aborted.Tick(), out(api.Abort, 1, 1)...)
	sends(t, over.Tick())
}
