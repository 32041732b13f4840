package nodes_test

import (
	"slices"
	"testing"

	"accord/api"
	"accord/nodes"
	"accord/wire"
)

const always = -1 // in the place of a sort that is an exception

// act is what a participant that got the messages before does at one more.
type act struct {
	before []int
	no     bool // how it votes
	kind   int
	wrote  int // the kind of the record, or 0
	sent   int // the kind of the message, or 0
	unless int // the sort that neither forces nor sends
	says   int // afterwards
}

func (a act) try(t *testing.T, sort int) {
	t.Helper()
	const number, tx = 3, 7
	p := nodes.NewParticipant(number, sort)
	p.SetVote(tx, !a.no)
	for _, kind := range a.before {
		p.Receive(api.Message{Kind: kind, To: number, Tx: tx})
	}
	text, safe := p.Log()
	got := p.Receive(api.Message{Kind: a.kind, To: number, Tx: tx})

	var want []api.Message
	if a.sent != 0 && sort != a.unless {
		want = append(want, api.Message{Kind: a.sent, From: number, To: 0, Tx: tx})
	}
	if !slices.Equal(got, want) {
		t.Errorf("%+v, the sort %d: it sends %v; want %v", a, sort, got, want)
	}
	if a.wrote != 0 {
		text += wire.WriteRecord(api.Record{Kind: a.wrote, Tx: tx})
		if sort != a.unless {
			safe = len(text)
		}
	}
	if log, n := p.Log(); log != text || n != safe {
		t.Errorf("%+v, the sort %d: the log is %x, %d; want %x, %d", a, sort, log, n, text, safe)
	}
	if n := p.Outcome(tx); n != a.says {
		t.Errorf("%+v, the sort %d: it says %d; want %d", a, sort, n, a.says)
	}
}

func TestParticipantAtEachMessage(t *testing.T) {
	const (
		prepare, commit, abort = api.Prepare, api.Commit, api.Abort
		yes, no, ack           = api.Yes, api.No, api.Ack
	)
	prepared, committed := []int{prepare}, []int{prepare, commit}
	for _, a := range []act{
		{nil, false, prepare, api.Prepared, yes, always, api.Open},
		{nil, true, prepare, api.Aborted, no, always, api.Left},
		{nil, false, commit, 0, 0, always, api.None},
		{nil, true, commit, 0, 0, always, api.None},
		{nil, false, abort, api.Aborted, ack, api.Aborts, api.Left},
		{nil, true, abort, api.Aborted, ack, api.Aborts, api.Left},

		{prepared, false, prepare, 0, yes, always, api.Open},
		{prepared, false, commit, api.Committed, ack, api.Commits, api.Taken},
		{prepared, false, abort, api.Aborted, ack, api.Aborts, api.Left},

		{committed, false, prepare, 0, 0, always, api.Taken},
		{committed, false, commit, 0, ack, api.Commits, api.Taken},
		{committed, false, abort, 0, 0, always, api.Taken},
	} {
		for _, sort := range allSorts {
			a.try(t, sort)
		}
	}
	// By whichever way it came to be aborted.
	for _, before := range []act{{no: true, before: prepared}, {before: []int{abort}}, {before: []int{prepare, abort}}} {
		for _, a := range []act{
			{before.before, before.no, prepare, 0, no, always, api.Left},
			{before.before, before.no, commit, 0, 0, always, api.Left},
			{before.before, before.no, abort, 0, ack, api.Aborts, api.Left},
		} {
			for _, sort := range allSorts {
				a.try(t, sort)
			}
		}
	}
}

func TestParticipantAtMessagesNotForIt(t *testing.T) {
	for _, state := range []struct {
		before []int
		says   int
	}{
		{nil, api.None},
		{[]int{api.Prepare}, api.Open},
		{[]int{api.Prepare, api.Commit}, api.Taken},
		{[]int{api.Abort}, api.Left},
	} {
		for _, kind := range []int{-1, 0, api.Yes, api.No, api.Ack, api.Inquire, 8} {
			for _, sort := range allSorts {
				act{before: state.before, kind: kind, unless: always, says: state.says}.try(t, sort)
			}
		}
	}
}

func TestParticipantVotesAsItWasToldLast(t *testing.T) {
	p := nodes.NewParticipant(1, api.Nothing)
	p.SetVote(1, false)
	p.SetVote(2, false)
	p.SetVote(2, true)
	p.SetVote(3, true)
	p.SetVote(3, false)
	for tx, want := range map[int]int{1: api.No, 2: api.Yes, 3: api.No, 4: api.Yes} {
		sends(t, p.Receive(api.Message{Kind: api.Prepare, To: 1, Tx: tx}), api.Message{Kind: want, From: 1, Tx: tx})
	}
	// A vote that was given is not taken back.
	p.SetVote(1, true)
	p.SetVote(2, false)
	for tx, want := range map[int]int{1: api.No, 2: api.Yes} {
		sends(t, p.Receive(api.Message{Kind: api.Prepare, To: 1, Tx: tx}), api.Message{Kind: want, From: 1, Tx: tx})
	}
}

// A force makes safe what other transactions had left, too.
func TestParticipantForcesAllOfItsLog(t *testing.T) {
	p := nodes.NewParticipant(2, api.Aborts)
	p.Receive(api.Message{Kind: api.Abort, To: 2, Tx: 4})
	p.Receive(api.Message{Kind: api.Abort, To: 2, Tx: 1})
	logs(t, p, 0, rec(api.Aborted, 4), rec(api.Aborted, 1))
	p.Receive(api.Message{Kind: api.Prepare, To: 2, Tx: 3})
	logs(t, p, 3, rec(api.Aborted, 4), rec(api.Aborted, 1), rec(api.Prepared, 3))
}

func TestParticipantTick(t *testing.T) {
	for _, sort := range allSorts {
		p := nodes.NewParticipant(5, sort)
		sends(t, p.Tick())
		p.SetVote(6, false)
		for _, tx := range []int{9, 40, 2, 17, 6, 1, 30} {
			p.Receive(api.Message{Kind: api.Prepare, To: 5, Tx: tx})
		}
		p.Receive(api.Message{Kind: api.Commit, To: 5, Tx: 17})
		p.Receive(api.Message{Kind: api.Abort, To: 5, Tx: 2})
		p.Receive(api.Message{Kind: api.Abort, To: 5, Tx: 3})
		text, safe := p.Log()
		for range 3 {
			var want []api.Message
			for _, tx := range []int{1, 9, 30, 40} {
				want = append(want, api.Message{Kind: api.Inquire, From: 5, To: 0, Tx: tx})
			}
			sends(t, p.Tick(), want...)
		}
		if log, n := p.Log(); log != text || n != safe {
			t.Errorf("a tick changed the log: %x, %d; want %x, %d", log, n, text, safe)
		}
	}
}
