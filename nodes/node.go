// Package nodes has the coordinator and the participants: what they know of
// transactions, write into their logs, and send.
package nodes

import (
	"slices"

	"accord/api"
	"accord/journal"
)

// Node is what all nodes can do. They give what they send to the caller, so
// that nodes which work at the same time have nothing in common.
type Node interface {
	Receive(m api.Message) []api.Message
	Tick() []api.Message
	Fall(keep int)
	Return() []api.Message
	IsDown() bool
	Outcome(tx int) int
	Log() (text string, safe int)
}

// The coordinator's number. It is no participant's, so that it stands for
// nobody where a participant is named.
const (
	coordinator = 0
	nobody      = 0
)

// unknown is what a map of record kinds says of a transaction without records.
const unknown = 0

type key struct {
	node, tx int
}

type set map[key]struct{}

func (s set) has(k key) bool {
	_, ok := s[k]
	return ok
}

func (s set) add(k key) { s[k] = struct{}{} }

// base is what the coordinator and the participants have in common.
type base struct {
	number int
	log    journal.Log
	known  map[key]int // the kind of the last record that says how it stands
	down   bool
}

func newBase(number int) base {
	return base{number: number, known: map[key]int{}}
}

// Log gives the node's log, and how many bytes of it are safe.
func (b *base) Log() (text string, safe int) { return b.log.Text(), b.log.Safe() }

// IsDown tells whether the node has fallen and not come again.
func (b *base) IsDown() bool { return b.down }

func (b *base) fall(keep int) {
	b.log.Fall(keep)
	clear(b.known)
	b.down = true
}

// comeAgain gives the records from which the node knows what it knows now.
func (b *base) comeAgain() []api.Record {
	records := b.log.Recover()
	for _, r := range records {
		b.learn(r)
	}
	b.down = false
	return records
}

func (b *base) key(tx int) key { return key{node: b.number, tx: tx} }

func (b *base) write(kind, tx int) {
	r := api.Record{Kind: kind, Tx: tx}
	b.log.Write(r)
	b.learn(r)
}

func (b *base) learn(r api.Record) {
	// That it ended says nothing of how: what is known of it stays.
	if r.Kind != api.Ended {
		b.known[b.key(r.Tx)] = r.Kind
	}
}

func (b *base) message(kind, to, tx int) api.Message {
	return api.Message{Kind: kind, From: b.number, To: to, Tx: tx}
}

// told turns the kind of a record into what a node says outside.
func told(kind int) int {
	switch kind {
	case api.Prepared:
		return api.Open
	case api.Committed:
		return api.Taken
	case api.Aborted:
		return api.Left
	}
	return api.None
}

// rising gives the keys' transactions by rising numbers. The keys are all of
// one node, so that no transaction comes twice.
func rising[V any](m map[key]V) []int {
	txs := make([]int, 0, len(m))
	for k := range m {
		txs = append(txs, k.tx)
	}
	slices.Sort(txs)
	return txs
}
