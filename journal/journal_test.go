package journal

import (
	"math"
	"slices"
	"testing"

	"accord/api"
	"accord/wire"
)

func holds(t *testing.T, l *Log, text string, safe int) {
	t.Helper()
	if l.Text() != text || l.Safe() != safe {
		t.Errorf("the log is %x, %d bytes of it safe; want %x, %d", l.Text(), l.Safe(), text, safe)
	}
}

func TestLog(t *testing.T) {
	began, ended := api.Record{Kind: api.Began, Tx: 1}, api.Record{Kind: api.Ended, Tx: 300}
	first, second := wire.WriteRecord(began), wire.WriteRecord(ended)
	var l Log
	holds(t, &l, "", 0)
	l.Force()
	holds(t, &l, "", 0)
	l.Write(began)
	holds(t, &l, first, 0)
	l.Force()
	holds(t, &l, first, len(first))
	l.Write(ended)
	l.Write(began)
	holds(t, &l, first+second+first, len(first))
	l.Force()
	l.Force()
	holds(t, &l, first+second+first, len(first+second+first))
}

// fallen gives a log of these records, the first so many of them safe, of which
// a fall has left so many bytes behind what was safe.
func fallen(safe, keep int, records ...api.Record) *Log {
	var l Log
	for i, r := range records {
		l.Write(r)
		if i+1 == safe {
			l.Force()
		}
	}
	l.Fall(keep)
	return &l
}

func TestFallKeepsWhatIsSafe(t *testing.T) {
	records := []api.Record{{Kind: api.Prepared, Tx: 1}, {Kind: api.Committed, Tx: 300}, {Kind: api.Aborted, Tx: 2}}
	for safe := range len(records) + 1 {
		whole, size := "", 0
		for i, r := range records {
			whole += wire.WriteRecord(r)
			if i < safe {
				size = len(whole)
			}
		}
		for keep := range len(whole) + 3 {
			holds(t, fallen(safe, keep, records...), whole[:min(size+keep, len(whole))], size)
		}
		holds(t, fallen(safe, math.MaxInt, records...), whole, size)
	}
	holds(t, fallen(0, 0), "", 0)
	holds(t, fallen(0, 9), "", 0)
}

func TestRecoverCutsOffWhatIsNoRecord(t *testing.T) {
	records := []api.Record{{Kind: api.Prepared, Tx: 1}, {Kind: api.Committed, Tx: 300}, {Kind: api.Aborted, Tx: 2}}
	whole := ""
	for n := range len(records) + 1 {
		if n > 0 {
			whole += wire.WriteRecord(records[n-1])
		}
		next := 1
		if n < len(records) {
			next = len(wire.WriteRecord(records[n]))
		}
		// Any piece of the record behind is none.
		for piece := range next {
			l := fallen(0, len(whole)+piece, records...)
			if got := l.Recover(); !slices.Equal(got, records[:n]) {
				t.Errorf("%d bytes and %d of a piece: %v; want %v", len(whole), piece, got, records[:n])
			}
			holds(t, l, whole, len(whole))
		}
	}
}

func TestLogGoesOnAfterAFall(t *testing.T) {
	first, second := api.Record{Kind: api.Prepared, Tx: 1}, api.Record{Kind: api.Committed, Tx: 1}
	one, two := wire.WriteRecord(first), wire.WriteRecord(second)
	l := fallen(1, 5, first, second)
	l.Recover()
	l.Write(second)
	holds(t, l, one+two, len(one))
	l.Fall(len(two))
	holds(t, l, one+two, len(one))
	l.Recover()
	// What was found after a fall is not lost by the next one.
	l.Fall(0)
	holds(t, l, one+two, len(one+two))
}
