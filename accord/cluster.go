package accord

import (
	"slices"
	"sync"

	"accord/api"
	"accord/nodes"
	"accord/transit"
)

// Cluster is a coordinator, participants, and the net between them.
type Cluster struct {
	coordinator  *nodes.Coordinator
	participants []*nodes.Participant // the first is the node 1
	net          transit.Net
	begun        int // how many transactions
}

// New makes a cluster (P5).
func New(c api.Config) (*Cluster, api.Errno) {
	if !mayBe(c) {
		return nil, api.ErrConfig
	}
	made := &Cluster{coordinator: nodes.NewCoordinator(c.Sorts, c.Wait)}
	for i, sort := range c.Sorts {
		made.participants = append(made.participants, nodes.NewParticipant(i+1, sort))
	}
	return made, api.OK
}

func mayBe(c api.Config) bool {
	wrong := func(sort int) bool { return sort < api.Nothing || sort > api.Commits }
	return len(c.Sorts) >= 1 && len(c.Sorts) <= api.MaxNodes && !slices.ContainsFunc(c.Sorts, wrong) &&
		c.Wait >= 1 && c.Wait <= api.MaxWait
}

// Vote tells how a participant votes (P5).
func (c *Cluster) Vote(node int, tx int, yes bool) api.Errno {
	switch {
	case c == nil:
		return api.ErrNil
	case node == 0 || !c.hasNode(node):
		return api.ErrNode
	case tx < 1 || tx > api.MaxTx:
		return api.ErrTx
	}
	c.participants[node-1].SetVote(tx, yes)
	return api.OK
}

// Begin begins a transaction (P6).
func (c *Cluster) Begin() (int, api.Errno) {
	switch {
	case c == nil:
		return 0, api.ErrNil
	case c.begun == api.MaxTx:
		return 0, api.ErrMany
	case c.coordinator.IsDown():
		return 0, api.ErrDown
	}
	c.begun++
	c.net.Send(c.coordinator.Begin(c.begun)...)
	return c.begun, api.OK
}

// Net tells the messages that are under way (P5).
func (c *Cluster) Net() ([]string, api.Errno) {
	if c == nil {
		return nil, api.ErrNil
	}
	var texts []string
	for _, m := range c.net.All() {
		b, e := Encode(m)
		if e != api.OK {
			return nil, e
		}
		texts = append(texts, b)
	}
	return texts, api.OK
}

// Deliver lets a message arrive (P5).
func (c *Cluster) Deliver(i int) api.Errno {
	switch {
	case c == nil:
		return api.ErrNil
	case !c.net.Has(i):
		return api.ErrIndex
	}
	m := c.net.Take(i)
	if to := c.node(m.To); !to.IsDown() {
		c.net.Send(to.Receive(m)...)
	}
	return api.OK
}

// Lose loses a message (P5).
func (c *Cluster) Lose(i int) api.Errno {
	switch {
	case c == nil:
		return api.ErrNil
	case !c.net.Has(i):
		return api.ErrIndex
	}
	c.net.Take(i)
	return api.OK
}

// Double doubles a message (P5).
func (c *Cluster) Double(i int) api.Errno {
	switch {
	case c == nil:
		return api.ErrNil
	case !c.net.Has(i):
		return api.ErrIndex
	case c.net.Full():
		return api.ErrMany
	}
	c.net.Send(c.net.Look(i))
	return api.OK
}

// Tick lets time go on (P5).
func (c *Cluster) Tick() api.Errno {
	if c == nil {
		return api.ErrNil
	}
	sent := make([][]api.Message, 1+len(c.participants))
	var work sync.WaitGroup
	for i := range sent {
		if node := c.node(i); !node.IsDown() {
			work.Go(func() { sent[i] = node.Tick() })
		}
	}
	work.Wait()
	// Only now, and node by node, so that the net is one under every schedule.
	for _, messages := range sent {
		c.net.Send(messages...)
	}
	return api.OK
}

// Crash lets a node fall (P5).
func (c *Cluster) Crash(node int, keep int) api.Errno {
	switch {
	case c == nil:
		return api.ErrNil
	case !c.hasNode(node):
		return api.ErrNode
	case keep < 0:
		return api.ErrArg
	case c.node(node).IsDown():
		return api.ErrDown
	}
	c.node(node).Fall(keep)
	return api.OK
}

// Restart lets a node come again (P5).
func (c *Cluster) Restart(node int) api.Errno {
	switch {
	case c == nil:
		return api.ErrNil
	case !c.hasNode(node):
		return api.ErrNode
	case !c.node(node).IsDown():
		return api.ErrUp
	}
	c.net.Send(c.node(node).Return()...)
	return api.OK
}

// Log tells a node's log, and how much of it is safe (P5).
func (c *Cluster) Log(node int) (string, int, api.Errno) {
	switch {
	case c == nil:
		return "", 0, api.ErrNil
	case !c.hasNode(node):
		return "", 0, api.ErrNode
	}
	text, safe := c.node(node).Log()
	return text, safe, api.OK
}

// Outcome tells what a node says of a transaction (P5).
func (c *Cluster) Outcome(node int, tx int) (int, api.Errno) {
	switch {
	case c == nil:
		return 0, api.ErrNil
	case !c.hasNode(node):
		return 0, api.ErrNode
	case tx < 1 || tx > c.begun:
		return 0, api.ErrTx
	case c.node(node).IsDown():
		return 0, api.ErrDown
	}
	return c.node(node).Outcome(tx), api.OK
}

func (c *Cluster) hasNode(node int) bool { return node >= 0 && node <= len(c.participants) }

func (c *Cluster) node(number int) nodes.Node {
	if number == 0 {
		return c.coordinator
	}
	return c.participants[number-1]
}
