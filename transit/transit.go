// Package transit keeps the messages that are under way.
package transit

import (
	"slices"

	"accord/api"
)

// Net has its messages in the order in which they were sent. Those who ask for
// the i-th one look first whether there is one.
type Net struct {
	messages []api.Message
}

// Send puts messages behind the others; what finds no room is lost.
func (n *Net) Send(messages ...api.Message) {
	room := api.MaxNet - len(n.messages)
	n.messages = append(n.messages, messages[:min(room, len(messages))]...)
}

// Has tells whether there is an i-th message, counted from 0 on.
func (n *Net) Has(i int) bool { return i >= 0 && i < len(n.messages) }

// Full tells whether what is sent now would be lost.
func (n *Net) Full() bool { return len(n.messages) == api.MaxNet }

// Look gives the i-th message, and leaves it under way.
func (n *Net) Look(i int) api.Message { return n.messages[i] }

// Take gives the i-th message, which is under way no more.
func (n *Net) Take(i int) api.Message {
	m := n.messages[i]
	n.messages = slices.Delete(n.messages, i, i+1)
	return m
}

// All gives all messages, in memory of the caller's own.
func (n *Net) All() []api.Message { return slices.Clone(n.messages) }
