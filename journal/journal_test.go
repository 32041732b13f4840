package journal

import (
	"testing"

	"accord/api"
	"accord/wire"
)

func holds(t *testing.T, l *Log, text string, safe int) {
	t.Helper()
	if l.Text() != text || l.Safe() != safe {
		t.Errorf("the log is %x, %d bytes of it safe; want %x, %d", l.Text(), l.Safe(), text, safe)
	}
}

func TestLog(t *testing.T) {
	began, ended := api.Record{Kind: api.Began, Tx: 1}, api.Record{Kind: api.Ended, Tx: 300}
	first, second := wire.WriteRecord(began), wire.WriteRecord(ended)
	var l Log
	holds(t, &l, "", 0)
	l.Force()
	holds(t, &l, "", 0)
	l.Write(began)
	holds(t, &l, first, 0)
	l.Force()
	holds(t, &l, first, len(first))
	l.Write(ended)
	l.Write(began)
	holds(t, &l, first+second+first, len(first))
	l.Force()
	l.Force()
	holds(t, &l, first+second+first, len(first+second+first))
}
