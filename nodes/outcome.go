package nodes

import "accord/api"

// An outcome is told by the message that brings it, api.Commit or api.Abort.

// recordOf gives the kind of the record that keeps an outcome.
func recordOf(outcome int) int {
	if outcome == api.Commit {
		return api.Committed
	}
	return api.Aborted
}

// presumes tells whether a sort takes this outcome for granted where nobody
// remembers: what is presumed needs no force and no Ack.
func presumes(sort, outcome int) bool {
	return sort == api.Commits && outcome == api.Commit || sort == api.Aborts && outcome == api.Abort
}

// presumed gives the outcome of what the coordinator remembers no more. The
// sort Nothing presumes none, but of a commit it would have been waited for.
func presumed(sort int) int {
	if sort == api.Commits {
		return api.Commit
	}
	return api.Abort
}
