package nodes_test

import (
	"math"
	"slices"
	"testing"

	"accord/api"
	"accord/nodes"
	"accord/wire"
)

// falls lets a node fall and come again, and gives what it sends then.
func falls(t *testing.T, n nodes.Node, keep int) []api.Message {
	t.Helper()
	if n.IsDown() {
		t.Fatal("it is down already")
	}
	text, safe := n.Log()
	n.Fall(keep)
	if !n.IsDown() {
		t.Fatal("it fell, and is not down")
	}
	left := text[:safe+min(keep, len(text)-safe)]
	if log, size := n.Log(); log != left || size != safe {
		t.Errorf("the fall left %x, %d; want %x, %d", log, size, left, safe)
	}
	sent := n.Return()
	if n.IsDown() {
		t.Fatal("it came again, and is down")
	}
	return sent
}

// everything is a keep by which nothing is lost.
const everything = math.MaxInt

var recordSize = len(wire.WriteRecord(rec(api.Began, 1)))

// comes lets messages about a transaction arrive at the node 1.
func comes(p *nodes.Participant, tx int, kinds ...int) {
	for _, kind := range kinds {
		p.Receive(api.Message{Kind: kind, To: 1, Tx: tx})
	}
}

// doubt is a participant that got these messages about the transaction 1, and
// what is left of its log if a fall takes all that may be taken.
type doubt struct {
	before []int
	no     bool
	sort   int
	log    []api.Record
	safe   int
}

func TestParticipantKnowsWhatItsRecordsSay(t *testing.T) {
	const nothing, aborts, commits = api.Nothing, api.Aborts, api.Commits
	prepared, committed, aborted := rec(api.Prepared, 1), rec(api.Committed, 1), rec(api.Aborted, 1)
	prepare, commit, abort := []int{api.Prepare}, []int{api.Prepare, api.Commit}, []int{api.Prepare, api.Abort}
	for _, d := range []doubt{
		{nil, false, nothing, nil, 0},
		{prepare, false, nothing, []api.Record{prepared}, 1},
		{prepare, false, aborts, []api.Record{prepared}, 1},
		{prepare, false, commits, []api.Record{prepared}, 1},
		{prepare, true, nothing, []api.Record{aborted}, 1},
		{prepare, true, aborts, []api.Record{aborted}, 1},
		{prepare, true, commits, []api.Record{aborted}, 1},
		{commit, false, nothing, []api.Record{prepared, committed}, 2},
		{commit, false, aborts, []api.Record{prepared, committed}, 2},
		{commit, false, commits, []api.Record{prepared, committed}, 1},
		{abort, false, nothing, []api.Record{prepared, aborted}, 2},
		{abort, false, aborts, []api.Record{prepared, aborted}, 1},
		{abort, false, commits, []api.Record{prepared, aborted}, 2},
		{[]int{api.Abort}, false, nothing, []api.Record{aborted}, 1},
		{[]int{api.Abort}, false, aborts, []api.Record{aborted}, 0},
		{[]int{api.Abort}, false, commits, []api.Record{aborted}, 1},
	} {
		for _, keep := range []int{0, 1, recordSize - 1} {
			d.try(t, keep, d.log[:d.safe])
		}
		for _, keep := range []int{recordSize, recordSize + 1, everything} {
			d.try(t, keep, d.log)
		}
	}
}

// try looks whether a participant that fell is as one that never was but in
// the state in which these records leave it.
func (d doubt) try(t *testing.T, keep int, left []api.Record) {
	t.Helper()
	p := nodes.NewParticipant(1, d.sort)
	p.SetVote(1, !d.no)
	comes(p, 1, d.before...)
	logs(t, p, d.safe, d.log...)
	sends(t, falls(t, p, keep))
	logs(t, p, len(left), left...)

	last := 0
	if len(left) > 0 {
		last = left[len(left)-1].Kind
	}
	says(t, p, 1, map[int]int{api.Prepared: api.Open, api.Committed: api.Taken, api.Aborted: api.Left}[last])
	if last == api.Prepared {
		sends(t, p.Tick(), api.Message{Kind: api.Inquire, From: 1, Tx: 1})
	} else {
		sends(t, p.Tick())
	}
	answer := map[int][]api.Message{
		0:            {{Kind: api.Yes, From: 1, Tx: 1}},
		api.Prepared: {{Kind: api.Yes, From: 1, Tx: 1}},
		api.Aborted:  {{Kind: api.No, From: 1, Tx: 1}},
	}[last]
	sends(t, p.Receive(api.Message{Kind: api.Prepare, To: 1, Tx: 1}), answer...)
}

// Some of what was not safe is kept: the first of it, whole records only.
func TestParticipantKeepsAPiece(t *testing.T) {
	for keep := range 4*recordSize + 2 {
		p := nodes.NewParticipant(1, api.Aborts)
		comes(p, 9, api.Prepare)
		var want []api.Record
		for _, tx := range []int{9, 3, 12, 1} {
			comes(p, tx, api.Abort)
			want = append(want, rec(api.Aborted, tx))
		}
		sends(t, falls(t, p, keep))
		whole := min(keep/recordSize, len(want))
		logs(t, p, 1+whole, append([]api.Record{rec(api.Prepared, 9)}, want[:whole]...)...)
		for i, r := range want {
			switch {
			case i < whole:
				says(t, p, r.Tx, api.Left)
			case r.Tx == 9:
				says(t, p, r.Tx, api.Open)
			default:
				says(t, p, r.Tx, api.None)
			}
		}
	}
}

// How it is to vote is no part of what falls with it.
func TestParticipantVotesAsToldAfterAFall(t *testing.T) {
	p := nodes.NewParticipant(1, api.Nothing)
	p.SetVote(1, false)
	p.SetVote(2, false)
	p.Fall(0)
	p.SetVote(2, true)
	p.SetVote(3, false)
	p.Return()
	for tx, want := range map[int]int{1: api.No, 2: api.Yes, 3: api.No, 4: api.Yes} {
		sends(t, p.Receive(api.Message{Kind: api.Prepare, To: 1, Tx: tx}), api.Message{Kind: want, From: 1, Tx: tx})
	}
}

// A vote that was given is not given otherwise after a fall.
func TestParticipantKeepsItsVote(t *testing.T) {
	for _, sort := range allSorts {
		p := nodes.NewParticipant(1, sort)
		p.SetVote(2, false)
		comes(p, 1, api.Prepare)
		comes(p, 2, api.Prepare)
		p.SetVote(1, false)
		p.SetVote(2, true)
		sends(t, falls(t, p, 0))
		for tx, want := range map[int]int{1: api.Yes, 2: api.No} {
			sends(t, p.Receive(api.Message{Kind: api.Prepare, To: 1, Tx: tx}), api.Message{Kind: want, From: 1, Tx: tx})
		}
	}
}

// isNotOpen fails if the coordinator has the transaction open.
func isNotOpen(t *testing.T, c *nodes.Coordinator, tx, want int) {
	t.Helper()
	says(t, c, tx, want)
	same(t, c, tx, from(tx, []int{api.Yes, api.No, api.Ack}, 1, 2, 3)...)
}

// Without Began it remembers nothing of what was collecting.
func TestCoordinatorForgetsWhatWasCollecting(t *testing.T) {
	for _, sorts := range [][]int{{api.Nothing, api.Nothing, api.Aborts}, {api.Aborts, api.Aborts, api.Aborts}} {
		for _, keep := range []int{0, everything} {
			c := nodes.NewCoordinator(sorts, 2)
			c.Begin(1)
			gets(t, c, api.Yes, 1, 1, 3)
			sends(t, falls(t, c, keep))
			logs(t, c, 0)
			isNotOpen(t, c, 1, api.None)
			sends(t, c.Tick())
			sends(t, gets(t, c, api.Inquire, 1, 2), out(api.Abort, 1, 2)...)
			// The votes from before the fall are none on what begins anew.
			c.Begin(2)
			sends(t, gets(t, c, api.Yes, 2, 2))
			sends(t, c.Tick(), out(api.Prepare, 2, 1, 3)...)
		}
	}
}

func TestCoordinatorAbortsWhatOnlyBegan(t *testing.T) {
	const nothing, aborts, commits = api.Nothing, api.Aborts, api.Commits
	for _, r := range []struct {
		sorts  []int
		awaits []int
		forced bool
	}{
		{[]int{commits}, []int{1}, false},
		{[]int{commits, commits, commits}, []int{1, 2, 3}, false},
		{[]int{aborts, commits, aborts}, []int{2}, false},
		{[]int{nothing, commits, aborts}, []int{1, 2}, true},
	} {
		c := nodes.NewCoordinator(r.sorts, 5)
		c.Begin(1)
		everybody := []int{1, 2, 3}[:len(r.sorts)]
		gets(t, c, api.Yes, 1, everybody[1:]...)
		sends(t, falls(t, c, everything), out(api.Abort, 1, everybody...)...)
		safe := 1
		if r.forced {
			safe = 2
		}
		logs(t, c, safe, rec(api.Began, 1), rec(api.Aborted, 1))
		same(t, c, 1, from(1, []int{api.Yes, api.No}, everybody...)...)
		for i, node := range r.awaits {
			says(t, c, 1, api.Open)
			sends(t, c.Tick(), out(api.Abort, 1, r.awaits[i:]...)...)
			sends(t, gets(t, c, api.Inquire, 1, node), out(api.Abort, 1, node)...)
			sends(t, gets(t, c, api.Ack, 1, node))
		}
		logs(t, c, safe, rec(api.Began, 1), rec(api.Aborted, 1), rec(api.Ended, 1))
		says(t, c, 1, api.Left)
	}
}

// It waits again for all Acks that a commit asks for, and tells it at a tick.
func TestCoordinatorGoesOnWithACommit(t *testing.T) {
	for _, keep := range []int{0, 3, everything} {
		c := commits(t, api.Aborts, api.Commits, api.Nothing, api.Aborts)
		gets(t, c, api.Ack, 1, 1, 3)
		sends(t, falls(t, c, keep))
		began, committed := rec(api.Began, 1), rec(api.Committed, 1)
		logs(t, c, 2, began, committed)
		says(t, c, 1, api.Open)
		sends(t, c.Tick(), out(api.Commit, 1, 1, 3, 4)...)
		sends(t, gets(t, c, api.Inquire, 1, 2), out(api.Commit, 1, 2)...)
		sends(t, gets(t, c, api.Ack, 1, 4, 3))
		sends(t, c.Tick(), out(api.Commit, 1, 1)...)
		sends(t, gets(t, c, api.Ack, 1, 1))
		logs(t, c, 2, began, committed, rec(api.Ended, 1))
		says(t, c, 1, api.Taken)
	}
}

// Who was left out for its No is waited for as well after a fall.
func TestCoordinatorGoesOnWithAnAbort(t *testing.T) {
	c := nodes.NewCoordinator([]int{api.Nothing, api.Aborts, api.Commits}, 5)
	c.Begin(1)
	sends(t, gets(t, c, api.No, 1, 3), out(api.Abort, 1, 1, 2)...)
	sends(t, falls(t, c, 0))
	logs(t, c, 2, rec(api.Began, 1), rec(api.Aborted, 1))
	says(t, c, 1, api.Open)
	sends(t, c.Tick(), out(api.Abort, 1, 1, 3)...)
	sends(t, gets(t, c, api.Ack, 1, 1, 3))
	logs(t, c, 2, rec(api.Began, 1), rec(api.Aborted, 1), rec(api.Ended, 1))
	says(t, c, 1, api.Left)
}

// An abort that was not forced is kept, or lost and decided once more.
func TestCoordinatorAtAnAbortThatWasNotForced(t *testing.T) {
	began, aborted, ended := rec(api.Began, 1), rec(api.Aborted, 1), rec(api.Ended, 1)
	for _, keep := range []int{0, recordSize - 1, recordSize, 2*recordSize - 1, 2 * recordSize} {
		c := nodes.NewCoordinator([]int{api.Aborts, api.Commits}, 5)
		c.Begin(1)
		gets(t, c, api.No, 1, 2)
		logs(t, c, 1, began, aborted, ended)
		sent := falls(t, c, keep)
		switch {
		case keep < recordSize:
			sends(t, sent, out(api.Abort, 1, 1, 2)...)
			logs(t, c, 1, began, aborted)
			says(t, c, 1, api.Open)
		case keep < 2*recordSize:
			sends(t, sent)
			logs(t, c, 2, began, aborted)
			says(t, c, 1, api.Open)
		default:
			sends(t, sent)
			logs(t, c, 3, began, aborted, ended)
			says(t, c, 1, api.Left)
		}
	}
}

// Where an outcome asks for no Ack, it is over when the coordinator comes again.
func TestCoordinatorEndsWhatAsksForNoAck(t *testing.T) {
	c := commits(t, api.Commits, api.Commits)
	for range 2 {
		sends(t, falls(t, c, recordSize-1))
		logs(t, c, 2, rec(api.Began, 1), rec(api.Committed, 1), rec(api.Ended, 1))
		isNotOpen(t, c, 1, api.Taken)
	}
	c = nodes.NewCoordinator([]int{api.Aborts, api.Aborts}, 1)
	c.Begin(1)
	c.Tick()
	logs(t, c, 0, rec(api.Aborted, 1), rec(api.Ended, 1))
	sends(t, falls(t, c, recordSize+1))
	logs(t, c, 1, rec(api.Aborted, 1), rec(api.Ended, 1))
	isNotOpen(t, c, 1, api.Left)
	sends(t, falls(t, c, recordSize))
	logs(t, c, 2, rec(api.Aborted, 1), rec(api.Ended, 1))
	isNotOpen(t, c, 1, api.Left)
}

// Of what ended only its log speaks: it is told, but not waited for.
func TestCoordinatorKeepsWhatEnded(t *testing.T) {
	c := commits(t, api.Nothing, api.Commits)
	gets(t, c, api.Ack, 1, 1)
	c.Begin(2) // its force makes Ended safe
	sends(t, falls(t, c, 0), out(api.Abort, 2, 1, 2)...)
	isNotOpen(t, c, 1, api.Taken)
	sends(t, c.Tick(), out(api.Abort, 2, 1, 2)...)
}

func TestCoordinatorComesAgainByRisingNumbers(t *testing.T) {
	c := nodes.NewCoordinator([]int{api.Commits, api.Commits}, 20)
	for tx := 1; tx <= 14; tx++ {
		c.Begin(tx)
	}
	// In this order, and without the Ended of the last one.
	gets(t, c, api.Yes, 12, 1, 2)
	gets(t, c, api.Yes, 5, 1, 2)
	gets(t, c, api.No, 7, 1)
	gets(t, c, api.Yes, 2, 1, 2)
	var want []api.Message
	for _, tx := range []int{1, 3, 4, 6, 8, 9, 10, 11, 13, 14} {
		want = append(want, out(api.Abort, tx, 1, 2)...)
	}
	sends(t, falls(t, c, 0), want...)
	var records []api.Record
	for tx := 1; tx <= 14; tx++ {
		records = append(records, rec(api.Began, tx))
	}
	records = append(records, rec(api.Committed, 12), rec(api.Ended, 12), rec(api.Committed, 5), rec(api.Ended, 5),
		rec(api.Aborted, 7), rec(api.Committed, 2))
	safe := len(records)
	for _, tx := range []int{1, 2, 3, 4, 6, 8, 9, 10, 11, 13, 14} {
		if tx == 2 {
			records = append(records, rec(api.Ended, tx))
		} else {
			records = append(records, rec(api.Aborted, tx))
		}
	}
	logs(t, c, safe, records...)
	for tx := 1; tx <= 14; tx++ {
		want := api.Open
		if slices.Contains([]int{2, 5, 12}, tx) {
			want = api.Taken
		}
		says(t, c, tx, want)
	}
}

// How long it had waited is forgotten with the rest.
func TestCoordinatorWaitsAnewAfterAFall(t *testing.T) {
	c := nodes.NewCoordinator([]int{api.Nothing}, 3)
	c.Begin(1)
	c.Tick()
	c.Tick()
	sends(t, falls(t, c, 0))
	c.Begin(2)
	for range 2 {
		sends(t, c.Tick(), out(api.Prepare, 2, 1)...)
	}
	sends(t, c.Tick(), out(api.Abort, 2, 1)...)
}
