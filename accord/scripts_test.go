package accord_test

import (
	"math"
	"testing"

	"accord/accord"
	"accord/api"
)

// plan is one transaction in which one node falls once.
type plan struct {
	sorts, votes []int
	at           int // how many messages arrive first
	node, keep   int
	pause        int // how many messages arrive, or are lost, while it is down
}

func (p plan) run(t *testing.T, pick func(n int) int) {
	t.Helper()
	w := watched(t, 2, p.sorts...)
	for i, vote := range p.votes {
		if vote == 0 {
			w.refuse(t, i+1, 1)
		}
	}
	w.begin(t)
	w.arrive(t, p.at, pick)
	w.fall(t, p.node, p.keep)
	w.agree(t)
	w.arrive(t, p.pause, pick)
	w.again(t, p.node)
	w.agree(t)
	w.finish(t, pick)
}

// arrive lets so many messages arrive; where there is none, a tick makes some.
func (w *watch) arrive(t *testing.T, n int, pick func(n int) int) {
	t.Helper()
	for range n {
		if net, _ := w.c.Net(); len(net) > 0 {
			delivers(t, w.c, pick(len(net)))
		} else {
			ticks(t, w.c, 1)
		}
		w.agree(t)
	}
}

// At every point each of the nodes falls, for a while, with each piece of its log.
func TestAllAgreeWhoeverFallsOnce(t *testing.T) {
	orders := []func(n int) int{
		func(n int) int { return 0 },
		func(n int) int { return n - 1 },
	}
	for size := 1; size <= 2; size++ {
		for _, sorts := range mixes(size, 3) {
			for _, votes := range mixes(size, 2) {
				for at := range 5*size + 1 {
					for node := range size + 1 {
						for _, keep := range []int{0, 7, 8, math.MaxInt} {
							for _, pause := range []int{0, 1, 3} {
								for _, order := range orders {
									plan{sorts, votes, at, node, keep, pause}.run(t, order)
								}
							}
						}
					}
				}
			}
		}
	}
}

// drawn gives a cluster of sorts and a wait by chance.
func drawn(t *testing.T, r *chance) *watch {
	t.Helper()
	var sorts []int
	for range 1 + r.below(api.MaxNodes) {
		sorts = append(sorts, r.below(3))
	}
	return watched(t, 1+r.below(10), sorts...)
}

// call makes one call by chance, at times a wrong one.
func (w *watch) call(t *testing.T, r *chance, most int) {
	t.Helper()
	net, _ := w.c.Net()
	node, i := r.below(w.nodes+1), r.below(len(net)+1)
	want := api.OK
	if i == len(net) {
		want = api.ErrIndex
	}
	switch r.below(24) {
	case 0, 1:
		if w.begun < most {
			w.begin(t)
		}
	case 2:
		w.c.Vote(node, 1+r.below(most), r.below(4) > 0)
	case 3:
		ticks(t, w.c, 1)
	case 4:
		w.fall(t, node, r.below(30))
	case 5, 6:
		w.again(t, node)
	case 7:
		answers(t, "Lose", w.c.Lose(i), want)
	case 8:
		if want == api.OK && len(net) == api.MaxNet {
			want = api.ErrMany
		}
		answers(t, "Double", w.c.Double(i), want)
	default:
		answers(t, "Deliver", w.c.Deliver(i), want)
	}
}

func TestAllAgreeWhateverHappens(t *testing.T) {
	for seed := range 300 {
		r := chance(seed * 104729)
		w := drawn(t, &r)
		for range 200 {
			w.call(t, &r, 8)
			w.agree(t)
		}
		w.allAgain(t)
		w.agree(t)
		w.finish(t, r.below)
	}
}

// After an end more may happen: what ended is not brought up otherwise.
func TestWhatEndedStaysThroughFalls(t *testing.T) {
	for seed := range 60 {
		r := chance(seed * 15485863)
		w := drawn(t, &r)
		for round := 1; round <= 4; round++ {
			for range 60 {
				w.call(t, &r, 2*round)
				w.agree(t)
			}
			w.allAgain(t)
			w.finish(t, r.below)
			for node := range w.nodes + 1 {
				w.fall(t, node, 0)
			}
			w.allAgain(t)
			w.finish(t, r.below)
		}
	}
}

// All that a net can hold is under way: what finds no room is lost, and comes
// with later ticks.
func TestManyTransactionsComeToAnEnd(t *testing.T) {
	for seed := range 10 {
		r := chance(seed * 49979687)
		w := drawn(t, &r)
		for range 600 {
			w.call(t, &r, api.MaxTx)
		}
		w.allAgain(t)
		w.finish(t, r.below)
	}
}

// A script answers the same, however its goroutines run.
func TestScriptsAnswerTheSame(t *testing.T) {
	for seed := range 20 {
		var seen []view
		for again := range 5 {
			r := chance(seed * 1299709)
			w := drawn(t, &r)
			for i := range 150 {
				w.call(t, &r, 8)
				if again == 0 {
					seen = append(seen, look(w.c))
				}
				unchanged(t, w.c, seen[i])
			}
		}
	}
}

// Clusters that work at the same time have nothing to do with one another.
func TestClustersWorkAtTheSameTime(t *testing.T) {
	var alone, together [8]view
	script := func(seed int) view {
		r := chance(seed * 6700417)
		c, _ := accord.New(api.Config{Sorts: []int{0, 1, 2}, Wait: 3})
		for range 400 {
			net, _ := c.Net()
			switch r.below(6) {
			case 0:
				c.Begin()
			case 1:
				c.Tick()
			case 2:
				c.Crash(r.below(4), r.below(20))
			case 3:
				c.Restart(r.below(4))
			default:
				c.Deliver(r.below(len(net) + 1))
			}
		}
		return look(c)
	}
	for i := range alone {
		alone[i] = script(i)
	}
	done := make(chan int)
	for i := range together {
		go func() {
			together[i] = script(i)
			done <- i
		}()
	}
	for range together {
		<-done
	}
	for i := range alone {
		if !alone[i].same(together[i]) {
			t.Errorf("the script %d answers otherwise beside others", i)
		}
	}
}
