// Package accord: transactions on which all agree: see DOC.md.
package accord

import (
	"errors"

	"accord/api"
	"accord/wire"
)

// Cluster is a coordinator, participants, and the net between them.
type Cluster struct{}

// Encode writes a message (P3).
func Encode(m api.Message) (string, api.Errno) {
	b, err := wire.WriteMessage(m)
	return b, errno(err)
}

// Decode reads a message (P3).
func Decode(b string) (api.Message, api.Errno) {
	m, err := wire.ReadMessage(b)
	return m, errno(err)
}

// Scan reads a log (P4).
func Scan(b string) ([]api.Record, int) {
	records, err := wire.ReadLog(b)
	var broken *wire.LogError
	if errors.As(err, &broken) {
		return records, broken.Whole
	}
	return records, len(b)
}

// New makes a cluster (P5).
func New(c api.Config) (*Cluster, api.Errno) { return nil, api.OK }

// Vote tells how a participant votes (P5).
func (c *Cluster) Vote(node int, tx int, yes bool) api.Errno { return api.OK }

// Begin begins a transaction (P6).
func (c *Cluster) Begin() (int, api.Errno) { return 0, api.OK }

// Net tells the messages that are under way (P5).
func (c *Cluster) Net() ([]string, api.Errno) { return nil, api.OK }

// Deliver lets a message arrive (P5).
func (c *Cluster) Deliver(i int) api.Errno { return api.OK }

// Lose loses a message (P5).
func (c *Cluster) Lose(i int) api.Errno { return api.OK }

// Double doubles a message (P5).
func (c *Cluster) Double(i int) api.Errno { return api.OK }

// Tick lets time go on (P5).
func (c *Cluster) Tick() api.Errno { return api.OK }

// Crash lets a node fall (P5).
func (c *Cluster) Crash(node int, keep int) api.Errno { return api.OK }

// Restart lets a node come again (P5).
func (c *Cluster) Restart(node int) api.Errno { return api.OK }

// Log tells a node's log, and how much of it is safe (P5).
func (c *Cluster) Log(node int) (string, int, api.Errno) { return "", 0, api.OK }

// Outcome tells what a node says of a transaction (P5).
func (c *Cluster) Outcome(node int, tx int) (int, api.Errno) { return 0, api.OK }
