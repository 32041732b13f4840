package nodes

import "accord/api"

// Participant is one of the nodes from 1 on.
type Participant struct {
	base
	sort  int
	votes map[key]int // api.Yes or api.No, where it was told how to vote
}

// NewParticipant gives a participant that knows nothing and votes yes.
func NewParticipant(number, sort int) *Participant {
	return &Participant{base: newBase(number), sort: sort, votes: map[key]int{}}
}

// SetVote tells how it votes from now on; a vote that was given stays.
func (p *Participant) SetVote(tx int, yes bool) {
	vote := api.No
	if yes {
		vote = api.Yes
	}
	p.votes[p.key(tx)] = vote
}

// Receive does what a message asks for, and gives what it sends.
func (p *Participant) Receive(m api.Message) []api.Message {
	switch m.Kind {
	case api.Prepare:
		return p.prepare(m.Tx)
	case api.Commit, api.Abort:
		return p.settle(m.Kind, m.Tx)
	}
	return nil
}

// Tick asks for the outcome of what it is in doubt about.
func (p *Participant) Tick() []api.Message {
	var sent []api.Message
	for _, tx := range rising(p.known) {
		if p.known[p.key(tx)] == api.Prepared {
			sent = append(sent, p.say(api.Inquire, tx))
		}
	}
	return sent
}

// Fall loses what is not safe. How it is to vote is told from outside, and
// holds from then on: it is not lost.
func (p *Participant) Fall(keep int) { p.fall(keep) }

// Return lets it come again; it sends nothing till it is asked, or has a tick.
func (p *Participant) Return() []api.Message {
	p.comeAgain()
	return nil
}

// Outcome tells how a transaction stands here.
func (p *Participant) Outcome(tx int) int { return told(p.known[p.key(tx)]) }

func (p *Participant) prepare(tx int) []api.Message {
	if p.known[p.key(tx)] == unknown {
		p.vote(tx)
	}
	switch p.known[p.key(tx)] {
	case api.Prepared:
		return []api.Message{p.say(api.Yes, tx)}
	case api.Aborted:
		return []api.Message{p.say(api.No, tx)}
	}
	return nil
}

// vote forces either vote: the coordinator counts on it from now on.
func (p *Participant) vote(tx int) {
	kind := api.Prepared
	if p.votes[p.key(tx)] == api.No {
		kind = api.Aborted
	}
	p.write(kind, tx)
	p.log.Force()
}

func (p *Participant) settle(outcome, tx int) []api.Message {
	kind, asked := recordOf(outcome), !presumes(p.sort, outcome)
	if p.awaits(outcome, tx) {
		p.write(kind, tx)
		if asked {
			p.log.Force()
		}
	}
	// An outcome that came before is acknowledged again: the first Ack may be lost.
	if asked && p.known[p.key(tx)] == kind {
		return []api.Message{p.say(api.Ack, tx)}
	}
	return nil
}

// awaits tells whether an outcome is news here. Only an abort may come to one
// that has not voted.
func (p *Participant) awaits(outcome, tx int) bool {
	known := p.known[p.key(tx)]
	return known == api.Prepared || known == unknown && outcome == api.Abort
}

func (p *Participant) say(kind, tx int) api.Message { return p.message(kind, coordinator, tx) }
