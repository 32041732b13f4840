// Package accord: transactions on which all agree: see DOC.md.
package accord

import (
	"errors"

	"accord/api"
	"accord/wire"
)

// Encode writes a message (P3).
func Encode(m api.Message) (string, api.Errno) {
	b, err := wire.WriteMessage(m)
	return b, errno(err)
}

// Decode reads a message (P3).
func Decode(b string) (api.Message, api.Errno) {
	m, err := wire.ReadMessage(b)
	return m, errno(err)
}

// Scan reads a log (P4).
func Scan(b string) ([]api.Record, int) {
	records, err := wire.ReadLog(b)
	var broken *wire.LogError
	if errors.As(err, &broken) {
		return records, broken.Whole
	}
	return records, len(b)
}
