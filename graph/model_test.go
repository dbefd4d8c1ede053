package graph_test

import (
	"fmt"
	"slices"
	"testing"

	"rick/graph"
)

// dice answers numbers that are scattered, the same ones in each run.
type dice uint64

func (d *dice) next(n int) int {
	*d += 0x9e3779b97f4a7c15
	v := uint64(*d)
	v = (v ^ v>>30) * 0xbf58476d1ce4e5b9
	v = (v ^ v>>27) * 0x94d049bb133111eb
	return int((v ^ v>>31) % uint64(n))
}

// graph is some graph: of few commits or of many, with few roots or many, flat or high.
func (d *dice) graph() []int {
	l := make([]int, d.next([]int{3, 12, 150}[d.next(3)]))
	seldom, back := 1+d.next(60), 1+d.next(20)
	for i := range l {
		l[i] = -1
		if i > 0 && d.next(seldom+1) > 0 {
			l[i] = max(i-1-d.next(back), 0)
		}
	}
	return l
}

// chainOf is the Chain of i by the chapter's words: i, and the Chain of its parent behind it.
func chainOf(l []int, i int) []int {
	if i < 0 || i >= len(l) {
		return nil
	}
	return append([]int{i}, chainOf(l, l[i])...)
}

// those are the numbers of l of which is answers true.
func those(l []int, is func(i int) bool) []int {
	var all []int
	for i := range l {
		if is(i) {
			all = append(all, i)
		}
	}
	return all
}

// baseOf is the first one of a's Chain that is in b's, too.
func baseOf(l []int, a, b int) int {
	for _, i := range chainOf(l, a) {
		if slices.Contains(chainOf(l, b), i) {
			return i
		}
	}
	return -1
}

func TestGraphsOfTheDice(t *testing.T) {
	d := dice(18)
	high, apart := 0, 0
	for n := range 400 {
		l := d.graph()
		what := fmt.Sprintf("the graph %d", n)
		truth(t, "Right of "+what, graph.Right(l), true)
		for range 12 {
			i, j := d.next(len(l)+2)-1, d.next(len(l)+2)-1
			of := fmt.Sprintf("%s, of %d and %d", what, i, j)
			chain := chainOf(l, i)
			high = max(high, len(chain))
			lists(t, "Chain in "+of, graph.Chain(l, i), chain)
			lists(t, "Children in "+of, graph.Children(l, i), those(l, func(k int) bool { return l[k] == i }))
			lists(t, "Under in "+of, graph.Under(l, i), those(l, func(k int) bool { return slices.Contains(chainOf(l, k), i) }))
			truth(t, "Above in "+of, graph.Above(l, i, j), slices.Contains(chainOf(l, j), i))
			base := baseOf(l, i, j)
			number(t, "Base in "+of, graph.Base(l, i, j), base)
			if base == -1 {
				apart++
			}
		}
	}
	if high < 50 || apart < 200 {
		t.Errorf("the highest has %d, and %d stand apart: that is no fair test", high, apart)
	}
}

// One number that is turned leaves a graph only where it is from -1 to below its own place.
func TestGraphsWithANumberTurned(t *testing.T) {
	d := dice(19)
	graphs, others := 0, 0
	for n := range 3_000 {
		l := append(d.graph(), -1)
		at, to := d.next(len(l)), d.next(len(l)+4)-3
		l[at] = to
		is := to >= -1 && to < at
		truth(t, fmt.Sprintf("Right of the graph %d with %d at %d", n, to, at), graph.Right(l), is)
		if is {
			graphs++
			continue
		}
		others++
		if i := d.next(len(l)); len(graph.Chain(l, i))+len(graph.Children(l, i-1))+len(graph.Under(l, i)) > 0 || graph.Above(l, i, i) || graph.Base(l, i, i) != -1 {
			t.Errorf("P18.1: the graph %d with %d at %d is none, but something is told of %d", n, to, at, i)
		}
	}
	if graphs < 500 || others < 500 {
		t.Errorf("%d are graphs, and %d are none: that is no fair test", graphs, others)
	}
}

// Who is under another one has that one above it.
func TestWhatFollows(t *testing.T) {
	d := dice(20)
	for n := range 200 {
		l := d.graph()
		for range min(len(l), 5) {
			i := d.next(len(l))
			under := graph.Under(l, i)
			for k := range l {
				if slices.Contains(under, k) != graph.Above(l, i, k) {
					t.Errorf("What follows: the graph %d: %d is under %d, but Above answers %v (or the other way round)", n, k, i, graph.Above(l, i, k))
				}
			}
		}
	}
}
