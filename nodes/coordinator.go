package nodes

import (
	"maps"
	"slices"

	"accord/api"
)

// matter is an open transaction.
type matter struct {
	outcome int // collecting, till it is decided
	waited  int // how many ticks, while it is collecting
}

// collecting stands in the place of an outcome where there is none yet.
const collecting = 0

// Coordinator is the node 0.
type Coordinator struct {
	base
	sorts   []int // the first is the sort of the node 1
	wait    int
	open    map[key]matter
	votes   set // who has voted yes on what is collecting
	awaited set // whose Ack about what is decided is missing
}

// NewCoordinator gives a coordinator of as many participants as there are sorts.
func NewCoordinator(sorts []int, wait int) *Coordinator {
	return &Coordinator{
		base:    newBase(coordinator),
		sorts:   slices.Clone(sorts),
		wait:    wait,
		open:    map[key]matter{},
		votes:   set{},
		awaited: set{},
	}
}

// Begin begins a transaction, and gives what it sends.
func (c *Coordinator) Begin(tx int) []api.Message {
	// Who presumes a commit would take one for granted if a fall made the
	// coordinator forget that it had begun.
	if slices.Contains(c.sorts, api.Commits) {
		c.write(api.Began, tx)
		c.log.Force()
	}
	c.open[c.key(tx)] = matter{outcome: collecting}
	return c.tell(api.Prepare, tx, c.allBut(nobody))
}

// Receive does what a message asks for, and gives what it sends.
func (c *Coordinator) Receive(m api.Message) []api.Message {
	if m.From < 1 || m.From > len(c.sorts) {
		return nil
	}
	switch m.Kind {
	case api.Yes:
		return c.takeYes(m.From, m.Tx)
	case api.No:
		return c.takeNo(m.From, m.Tx)
	case api.Ack:
		c.takeAck(m.From, m.Tx)
	case api.Inquire:
		return c.answer(m.From, m.Tx)
	}
	return nil
}

// Tick asks again for what is missing, and gives up what took too long.
func (c *Coordinator) Tick() []api.Message {
	var sent []api.Message
	for _, tx := range rising(c.open) {
		sent = append(sent, c.urge(tx)...)
	}
	return sent
}

// Fall loses what is not safe, and what is open.
func (c *Coordinator) Fall(keep int) {
	c.fall(keep)
	clear(c.open)
	clear(c.votes)
	clear(c.awaited)
}

// Return lets it come again, and gives what it sends.
func (c *Coordinator) Return() []api.Message {
	ended := set{}
	for _, r := range c.comeAgain() {
		if r.Kind == api.Ended {
			ended.add(c.key(r.Tx))
		}
	}
	var sent []api.Message
	for _, tx := range rising(c.known) {
		if !ended.has(c.key(tx)) {
			sent = append(sent, c.resume(tx)...)
		}
	}
	return sent
}

// Outcome tells how a transaction stands here.
func (c *Coordinator) Outcome(tx int) int {
	if _, open := c.open[c.key(tx)]; open {
		return api.Open
	}
	return told(c.known[c.key(tx)])
}

func (c *Coordinator) takeYes(from, tx int) []api.Message {
	if !c.isCollecting(tx) {
		return nil
	}
	c.votes.add(key{node: from, tx: tx})
	if len(c.silent(tx)) > 0 {
		return nil
	}
	return c.decide(api.Commit, tx, nobody)
}

func (c *Coordinator) takeNo(from, tx int) []api.Message {
	if !c.isCollecting(tx) {
		return nil
	}
	return c.decide(api.Abort, tx, from)
}

func (c *Coordinator) takeAck(from, tx int) {
	if _, open := c.open[c.key(tx)]; !open || c.isCollecting(tx) {
		return
	}
	delete(c.awaited, key{node: from, tx: tx})
	c.endIfOver(tx)
}

func (c *Coordinator) answer(from, tx int) []api.Message {
	m, open := c.open[c.key(tx)]
	outcome := m.outcome
	if !open {
		outcome = presumed(c.sorts[from-1])
	} else if outcome == collecting {
		return nil
	}
	return c.tell(outcome, tx, []int{from})
}

func (c *Coordinator) urge(tx int) []api.Message {
	m := c.open[c.key(tx)]
	if m.outcome != collecting {
		return c.tell(m.outcome, tx, c.owing(tx))
	}
	m.waited++
	if m.waited == c.wait {
		return c.decide(api.Abort, tx, nobody)
	}
	c.open[c.key(tx)] = m
	return c.tell(api.Prepare, tx, c.silent(tx))
}

// resume takes up what had not ended. The log does not tell who was left out,
// nor who has acknowledged, so that all are waited for.
func (c *Coordinator) resume(tx int) []api.Message {
	switch c.known[c.key(tx)] {
	case api.Began:
		// Nobody can have been told of a commit: its record would be safe.
		return c.decide(api.Abort, tx, nobody)
	case api.Committed:
		c.await(api.Commit, tx, c.allBut(nobody))
	case api.Aborted:
		c.await(api.Abort, tx, c.allBut(nobody))
	}
	return nil
}

// decide settles what was collecting. Who is left out knows the outcome
// already, and is neither told nor waited for.
func (c *Coordinator) decide(outcome, tx, left int) []api.Message {
	c.write(recordOf(outcome), tx)
	// An abort that is lost is still presumed, unless somebody presumes nothing.
	if outcome == api.Commit || slices.Contains(c.sorts, api.Nothing) {
		c.log.Force()
	}
	maps.DeleteFunc(c.votes, func(k key, _ struct{}) bool { return k.tx == tx })
	others := c.allBut(left)
	c.await(outcome, tx, others)
	return c.tell(outcome, tx, others)
}

// await keeps the transaction open till all of these have acknowledged whose
// sort asks for it.
func (c *Coordinator) await(outcome, tx int, nodes []int) {
	c.open[c.key(tx)] = matter{outcome: outcome}
	for _, node := range nodes {
		if !presumes(c.sorts[node-1], outcome) {
			c.awaited.add(key{node: node, tx: tx})
		}
	}
	c.endIfOver(tx)
}

// endIfOver does not force: if Ended is lost, the Acks are asked for once more.
func (c *Coordinator) endIfOver(tx int) {
	if len(c.owing(tx)) > 0 {
		return
	}
	c.write(api.Ended, tx)
	delete(c.open, c.key(tx))
}

func (c *Coordinator) isCollecting(tx int) bool {
	m, open := c.open[c.key(tx)]
	return open && m.outcome == collecting
}

func (c *Coordinator) tell(kind, tx int, to []int) []api.Message {
	var sent []api.Message
	for _, node := range to {
		sent = append(sent, c.message(kind, node, tx))
	}
	return sent
}

func (c *Coordinator) allBut(left int) []int {
	return c.those(func(node int) bool { return node != left })
}

// silent gives those whose vote has not come.
func (c *Coordinator) silent(tx int) []int {
	return c.those(func(node int) bool { return !c.votes.has(key{node: node, tx: tx}) })
}

// owing gives those whose Ack has not come.
func (c *Coordinator) owing(tx int) []int {
	return c.those(func(node int) bool { return c.awaited.has(key{node: node, tx: tx}) })
}

// those gives the participants that are chosen, by rising numbers.
func (c *Coordinator) those(chosen func(node int) bool) []int {
	var nodes []int
	for i := range c.sorts {
		if chosen(i + 1) {
			nodes = append(nodes, i+1)
		}
	}
	return nodes
}
