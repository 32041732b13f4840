package accord_test

import (
	"testing"

	"accord/api"
)

func TestExampleOfACommit(t *testing.T) {
	c := cluster(t, 3, api.Aborts, api.Commits)
	begins(t, c, 1)
	logs(t, c, 0, 1, rec(api.Began, 1))
	underWay(t, c, msg(api.Prepare, 0, 1, 1), msg(api.Prepare, 0, 2, 1))
	delivers(t, c, 0, 0)
	underWay(t, c, msg(api.Yes, 1, 0, 1), msg(api.Yes, 2, 0, 1))
	delivers(t, c, 0, 0)
	logs(t, c, 0, 2, rec(api.Began, 1), rec(api.Committed, 1))
	underWay(t, c, msg(api.Commit, 0, 1, 1), msg(api.Commit, 0, 2, 1))
	delivers(t, c, 0, 0)
	underWay(t, c, msg(api.Ack, 1, 0, 1))
	says(t, c, 1, api.Open, api.Taken, api.Taken)
	logs(t, c, 1, 2, rec(api.Prepared, 1), rec(api.Committed, 1))
	logs(t, c, 2, 1, rec(api.Prepared, 1), rec(api.Committed, 1))
	ticks(t, c, 1)
	underWay(t, c, msg(api.Ack, 1, 0, 1), msg(api.Commit, 0, 1, 1))
	delivers(t, c, 0)
	logs(t, c, 0, 2, rec(api.Began, 1), rec(api.Committed, 1), rec(api.Ended, 1))
	says(t, c, 1, api.Taken, api.Taken, api.Taken)
}

// A message goes to the node that it names, in whichever order they arrive.
func TestEveryNodeGetsItsOwn(t *testing.T) {
	c := cluster(t, 2, 0, 0, 0, 0, 0, 0)
	answers(t, "Vote", c.Vote(4, 1, false), api.OK)
	begins(t, c, 1)
	delivers(t, c, 5, 3, 0)
	underWay(t, c, msg(api.Prepare, 0, 2, 1), msg(api.Prepare, 0, 3, 1), msg(api.Prepare, 0, 5, 1),
		msg(api.Yes, 6, 0, 1), msg(api.No, 4, 0, 1), msg(api.Yes, 1, 0, 1))
	says(t, c, 1, api.Open, api.Open, api.None, api.None, api.Left, api.None, api.Open)
	delivers(t, c, 4)
	delivers(t, c, 5, 6)
	says(t, c, 1, api.Open, api.Left, api.None, api.Left, api.Left, api.None, api.Open)
}

// An outcome is asked for till it comes, though what is sent is lost.
func TestDoubtEndsByAsking(t *testing.T) {
	for outcome, want := range map[int]int{api.Commit: api.Taken, api.Abort: api.Left} {
		c := cluster(t, 1, api.Nothing)
		begins(t, c, 1)
		delivers(t, c, 0)
		if outcome == api.Commit {
			delivers(t, c, 0)
		} else {
			answers(t, "Lose", c.Lose(0), api.OK)
			ticks(t, c, 1)
			answers(t, "Lose", c.Lose(1), api.OK)
		}
		answers(t, "Lose", c.Lose(0), api.OK)
		ticks(t, c, 1)
		underWay(t, c, msg(outcome, 0, 1, 1), msg(api.Inquire, 1, 0, 1))
		answers(t, "Lose", c.Lose(0), api.OK)
		delivers(t, c, 0)
		underWay(t, c, msg(outcome, 0, 1, 1))
		delivers(t, c, 0, 0)
		says(t, c, 1, want, want)
	}
}

// mixes gives all lists of so many numbers below most.
func mixes(size, most int) [][]int {
	all := [][]int{nil}
	for range size {
		var longer [][]int
		for _, l := range all {
			for n := range most {
				longer = append(longer, append(append([]int(nil), l...), n))
			}
		}
		all = longer
	}
	return all
}

// Where nothing is lost and no tick comes between, the votes alone decide.
func TestAllSortsAndVotesComeToAnEnd(t *testing.T) {
	orders := []func(n int) int{
		func(n int) int { return 0 },
		func(n int) int { return n - 1 },
		func(n int) int { return n / 2 },
	}
	for size := 1; size <= 3; size++ {
		for _, sorts := range mixes(size, 3) {
			for _, votes := range mixes(size, 2) {
				for _, order := range orders {
					w := watched(t, 2, sorts...)
					want := api.Taken
					for i, vote := range votes {
						if vote == 0 {
							w.refuse(t, i+1, 1)
							want = api.Left
						}
					}
					w.begin(t)
					w.finish(t, order)
					says(t, w.c, 1, []int{want, want, want, want}[:size+1]...)
				}
			}
		}
	}
}

// Ticks in between make what is sent come again, and may end the waiting.
func TestTicksInBetweenComeToAnEnd(t *testing.T) {
	for seed := range 200 {
		r := chance(seed)
		w := watched(t, 1+r.below(4), mixes(3, 3)[r.below(27)]...)
		for tx := 1; tx <= 3; tx++ {
			if r.below(3) == 0 {
				w.refuse(t, 1+r.below(3), tx)
			}
			w.begin(t)
			for range r.below(12) {
				net, _ := w.c.Net()
				if r.below(6) == 0 || len(net) == 0 {
					ticks(t, w.c, 1)
				} else {
					delivers(t, w.c, r.below(len(net)))
				}
				w.agree(t)
			}
		}
		w.finish(t, r.below)
	}
}

func (w *watch) step(t *testing.T, r *chance) {
	t.Helper()
	net, _ := w.c.Net()
	if len(net) == 0 {
		ticks(t, w.c, 1)
		return
	}
	i := r.below(len(net))
	switch r.below(10) {
	case 0:
		ticks(t, w.c, 1)
	case 1, 2:
		answers(t, "Lose", w.c.Lose(i), api.OK)
	case 3, 4:
		if len(net) < api.MaxNet {
			answers(t, "Double", w.c.Double(i), api.OK)
		}
	default:
		delivers(t, w.c, i)
	}
}

func TestAllAgreeWhateverIsLostAndDoubled(t *testing.T) {
	for seed := range 150 {
		r := chance(seed * 7919)
		var sorts []int
		for range 1 + r.below(api.MaxNodes) {
			sorts = append(sorts, r.below(3))
		}
		w := watched(t, 1+r.below(6), sorts...)
		for tx := 1; tx <= 8; tx++ {
			if r.below(3) == 0 {
				w.refuse(t, 1+r.below(len(sorts)), tx)
			}
			w.begin(t)
			for range r.below(40) {
				w.step(t, &r)
				w.agree(t)
			}
		}
		w.finish(t, r.below)
	}
}
