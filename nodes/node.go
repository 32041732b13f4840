// Package nodes has the coordinator and the participants: what they know of
// transactions, write into their logs, and send.
package nodes

import (
	"slices"

	"accord/api"
	"accord/journal"
)

// Node is what all nodes can do. They give what they send to the caller, so
// that nodes which work at the same time have nothing in common.
type Node interface {
	Receive(m api.Message) []api.Message
	Tick() []api.Message
	Outcome(tx int) int
	Log() (text string, safe int)
}

// The coordinator's number. It is no participant's, so that it stands for
// nobody where a participant is named.
const (
	coordinator = 0
	nobody      = 0
)

// unknown is what a map of record kinds says of a transaction without records.
const unknown = 0

type key struct {
	node, tx int
}

type set map[key]struct{}

func (s set) has(k key) bool {
	_, ok := s[k]
	return ok
}

func (s set) add(k key) { s[k] = struct{}{} }

// base is what the coordinator and the participants have in common.
type base struct {
	number int
	log    journal.Log
	known  map[key]int // the kind of the last record that says how it stands
}

func newBase(number int) base {
	return base{number: number, known: map[key]int{}}
}

// Log gives the node's log, and how many bytes of it are safe.
func (b *base) Log() (text string, safe int) { return b.log.Text(), b.log.Safe() }

func (b *base) key(tx int) key { return key{node: b.number, tx: tx} }

func (b *base) write(kind, tx int) {
	b.log.Write(api.Record{Kind: kind, Tx: tx})
	// That it ended says nothing of how: what is known of it stays.
	if kind != api.Ended {
		b.known[b.key(tx)] = kind
	}
}

func (b *base) message(kind, to, tx int) api.Message {
	return api.Message{Kind: kind, From: b.number, To: to, Tx: tx}
}

// told turns the kind of a record into what a node says outside.
func told(kind int) int {
	switch kind {
	case api.Prepared:
		return api.Open
	case api.Committed:
		return api.Taken
	case api.Aborted:
		return api.Left
	}
	return api.None
}

// rising gives the keys' transactions by rising numbers. The keys are all of
// one node, so that no transaction comes twice.
func rising[V any](m map[key]V) []int {
	txs := make([]int, 0, len(m))
	for k := range m {
		txs = append(txs, k.tx)
	}
	slices.Sort(txs)
	return txs
}
