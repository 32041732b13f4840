package nodes_test

import (
	"slices"
	"testing"

	"accord/api"
	"accord/nodes"
	"accord/wire"
)

var allSorts = []int{api.Nothing, api.Aborts, api.Commits}

// A kind on either side of those that there are, and all between.
var allKinds = []int{0, api.Prepare, api.Yes, api.No, api.Commit, api.Abort, api.Ack, api.Inquire, 8}

func sends(t *testing.T, got []api.Message, want ...api.Message) {
	t.Helper()
	if !slices.Equal(got, want) {
		t.Errorf("it sends %v; want %v", got, want)
	}
}

func rec(kind, tx int) api.Record { return api.Record{Kind: kind, Tx: tx} }

// logs looks at a node's records, and at how many of them are safe.
func logs(t *testing.T, n nodes.Node, safe int, want ...api.Record) {
	t.Helper()
	text, size := n.Log()
	all, err := wire.ReadLog(text)
	if err != nil || !slices.Equal(all, want) {
		t.Fatalf("the log is %v, %v; want %v", all, err, want)
	}
	end := 0
	for _, r := range want[:safe] {
		end += len(wire.WriteRecord(r))
	}
	if size != end {
		t.Errorf("%d bytes of %v are safe; want %d", size, all, end)
	}
}

func says(t *testing.T, n nodes.Node, tx, want int) {
	t.Helper()
	if got := n.Outcome(tx); got != want {
		t.Errorf("of %d it says %d; want %d", tx, got, want)
	}
}
