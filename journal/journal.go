// Package journal keeps the log of a node.
package journal

import (
	"accord/api"
	"accord/wire"
)

// Log is a log as bytes, since a node that falls may keep a piece of a record.
type Log struct {
	text string
	safe int
}

// Write puts a record behind the others; it is not safe yet.
func (l *Log) Write(r api.Record) { l.text += wire.WriteRecord(r) }

// Force makes all that was written safe.
func (l *Log) Force() { l.safe = len(l.text) }

// Text gives the whole log.
func (l *Log) Text() string { return l.text }

// Safe tells how many bytes from the beginning are safe.
func (l *Log) Safe() int { return l.safe }
