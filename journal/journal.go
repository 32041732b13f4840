// Package journal keeps the log of a node.
package journal

import (
	"errors"

	"accord/api"
	"accord/wire"
)

// Log is a log as bytes, since a node that falls may keep a piece of a record.
type Log struct {
	text string
	safe int
}

// Write puts a record behind the others; it is not safe yet.
func (l *Log) Write(r api.Record) { l.text += wire.WriteRecord(r) }

// Force makes all that was written safe.
func (l *Log) Force() { l.safe = len(l.text) }

// Fall loses what is not safe, but for the first bytes of it, as many as are to
// be kept: a node falls while they are on their way to where they are safe. The
// number is not below 0.
func (l *Log) Fall(keep int) {
	kept := min(keep, len(l.text)-l.safe)
	l.text = l.text[:l.safe+kept]
}

// Recover gives the records that a fall has left, and cuts off what stands
// behind them; what is found after a fall is safe.
func (l *Log) Recover() []api.Record {
	records, err := wire.ReadLog(l.text)
	var broken *wire.LogError
	if errors.As(err, &broken) {
		l.text = l.text[:broken.Whole]
	}
	l.Force()
	return records
}

// Text gives the whole log.
func (l *Log) Text() string { return l.text }

// Safe tells how many bytes from the beginning are safe.
func (l *Log) Safe() int { return l.safe }
