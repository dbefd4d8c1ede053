package graph_test

import (
	"fmt"
	"math"
	"slices"
	"sync"
	"testing"

	"rick/api"
	"rick/graph"
)

// forest is a graph of two roots, 0 and 4:
//
//	0 - 1 - 3 - 5
//	  \ 2 - 7
//	4 - 6
func forest() []int { return []int{-1, 0, 0, 1, -1, 3, 4, 2} }

// stack is a graph of n commits, each on the one ahead of it.
func stack(n int) []int {
	l := make([]int, n)
	for i := range l {
		l[i] = i - 1
	}
	return l
}

// noGraphs are lists that are none, each with a part that would be one.
func noGraphs() map[string][]int {
	return map[string][]int{
		"its own parent":               {0},
		"its own parent, behind some":  {-1, 0, 2},
		"a parent behind it":           {-1, 2, 0},
		"a parent that is no number":   {-1, 0, 5},
		"a parent far past the end":    {-1, 0, math.MaxInt},
		"a parent below -1":            {-1, 0, -2},
		"a parent far below -1":        {-1, 0, math.MinInt},
		"a first one with a parent":    {1, -1, 0},
		"a first one below -1":         {-2, 0, 1},
		"parents that go round":        {-1, 2, 1},
		"a last one that may not be":   append(stack(200), 200),
		"one that may not be, within":  slices.Concat(stack(100), []int{100}, make([]int, 100)),
		"one that begins another word": append(stack(64), 64),
	}
}

// noNumbers are no numbers of a graph of n commits, and of -1 there is nothing but Children.
func noNumbers(n int) []int {
	return []int{-1, -2, -63, -64, -65, math.MinInt, math.MinInt + 1, n, n + 1, n + 63, n + 64, n + 1_000, math.MaxInt, math.MaxInt - 1}
}

// lists fails unless these are alike.
func lists(t *testing.T, what string, got, want []int) {
	t.Helper()
	if !slices.Equal(got, want) {
		t.Errorf("P18.1: %s: %v; want %v", what, got, want)
	}
}

// truth fails unless these are alike.
func truth(t *testing.T, what string, got, want bool) {
	t.Helper()
	if got != want {
		t.Errorf("P18.1: %s: %v", what, got)
	}
}

// number fails unless these are alike.
func number(t *testing.T, what string, got, want int) {
	t.Helper()
	if got != want {
		t.Errorf("P18.1: %s: %d; want %d", what, got, want)
	}
}

func TestTheDocumentsExample(t *testing.T) {
	lists(t, "Chain of 2 in -1, 0, 1", graph.Chain([]int{-1, 0, 1}, 2), []int{2, 1, 0})
}

func TestRight(t *testing.T) {
	for what, l := range map[string][]int{
		"nil":                 nil,
		"an empty list":       {},
		"an empty one, room":  forest()[1:1],
		"a root":              {-1},
		"roots alone":         {-1, -1, -1},
		"a stack":             stack(300),
		"all on the first":    {-1, 0, 0, 0},
		"a root behind some":  {-1, 0, -1, 2},
		"a forest":            forest(),
		"as many as may be":   stack(api.MaxCommits),
		"and one more":        stack(api.MaxCommits + 1),
		"just below each one": {-1, 0, 1, 2},
	} {
		truth(t, "Right of "+what, graph.Right(l), true)
	}
	for what, l := range noGraphs() {
		truth(t, "Right of "+what, graph.Right(l), false)
	}
}

func TestListsOfAForest(t *testing.T) {
	l := forest()
	for _, r := range []struct {
		i                      int
		chain, children, under []int
	}{
		{-1, nil, []int{0, 4}, nil},
		{0, []int{0}, []int{1, 2}, []int{0, 1, 2, 3, 5, 7}},
		{1, []int{1, 0}, []int{3}, []int{1, 3, 5}},
		{2, []int{2, 0}, []int{7}, []int{2, 7}},
		{3, []int{3, 1, 0}, []int{5}, []int{3, 5}},
		{4, []int{4}, []int{6}, []int{4, 6}},
		{5, []int{5, 3, 1, 0}, nil, []int{5}},
		{6, []int{6, 4}, nil, []int{6}},
		{7, []int{7, 2, 0}, nil, []int{7}},
	} {
		lists(t, fmt.Sprint("Chain of ", r.i), graph.Chain(l, r.i), r.chain)
		lists(t, fmt.Sprint("Children of ", r.i), graph.Children(l, r.i), r.children)
		lists(t, fmt.Sprint("Under of ", r.i), graph.Under(l, r.i), r.under)
	}
}

func TestAboveAndBaseInAForest(t *testing.T) {
	l := forest()
	for _, r := range []struct {
		a, b  int
		above bool
		base  int
	}{
		{0, 0, true, 0},
		{0, 5, true, 0},
		{5, 0, false, 0},
		{1, 5, true, 1},
		{5, 1, false, 1},
		{3, 7, false, 0},
		{7, 3, false, 0},
		{1, 2, false, 0},
		{4, 6, true, 4},
		{6, 4, false, 4},
		{6, 6, true, 6},
		{6, 5, false, -1},
		{0, 4, false, -1},
		{0, 6, false, -1},
	} {
		truth(t, fmt.Sprintf("Above of %d, %d", r.a, r.b), graph.Above(l, r.a, r.b), r.above)
		number(t, fmt.Sprintf("Base of %d, %d", r.a, r.b), graph.Base(l, r.a, r.b), r.base)
	}
}

func TestOfNumbersThatAreNone(t *testing.T) {
	for _, l := range [][]int{nil, {}, {-1}, forest(), stack(63), stack(64), stack(65), stack(130)} {
		for _, i := range noNumbers(len(l)) {
			what := fmt.Sprintf(" of %d, which is no number of %d", i, len(l))
			lists(t, "Chain"+what, graph.Chain(l, i), nil)
			lists(t, "Under"+what, graph.Under(l, i), nil)
			if i != -1 {
				lists(t, "Children"+what, graph.Children(l, i), nil)
			}
			for _, j := range append(noNumbers(len(l)), 0, len(l)-1, i) {
				truth(t, "Above"+what, graph.Above(l, i, j) || graph.Above(l, j, i), false)
				number(t, "Base"+what, graph.Base(l, i, j), -1)
				number(t, "Base"+what+", the other way round", graph.Base(l, j, i), -1)
			}
		}
	}
}

func TestOfWhatIsNoGraph(t *testing.T) {
	for what, l := range noGraphs() {
		for _, i := range append(noNumbers(len(l)), 0, 1, 2, len(l)-1) {
			lists(t, "Chain of "+what, graph.Chain(l, i), nil)
			lists(t, "Children of "+what, graph.Children(l, i), nil)
			lists(t, "Under of "+what, graph.Under(l, i), nil)
			for _, j := range []int{-1, 0, 1, 2, i} {
				truth(t, "Above of "+what, graph.Above(l, i, j) || graph.Above(l, j, i), false)
				number(t, "Base of "+what, graph.Base(l, i, j), -1)
				number(t, "Base of "+what+", the other way round", graph.Base(l, j, i), -1)
			}
		}
	}
}

// Around each 64th number another word of a set begins.
func TestALongStack(t *testing.T) {
	l := stack(300)
	for _, i := range []int{0, 1, 62, 63, 64, 65, 127, 128, 129, 191, 192, 255, 256, 298, 299} {
		down := stack(i + 2)[1:]
		slices.Reverse(down)
		lists(t, fmt.Sprint("Chain of ", i), graph.Chain(l, i), down)
		lists(t, fmt.Sprint("Under of ", i), graph.Under(l, i), stack(301)[1:][i:])
		for _, j := range []int{0, 63, 64, 128, 299} {
			truth(t, fmt.Sprintf("Above of %d, %d", i, j), graph.Above(l, i, j), i <= j)
			number(t, fmt.Sprintf("Base of %d, %d", i, j), graph.Base(l, i, j), min(i, j))
		}
	}
	lists(t, "Children of the last one", graph.Children(l, 299), nil)
	lists(t, "Children of one", graph.Children(l, 63), []int{64})
}

func TestManyChildren(t *testing.T) {
	n := api.MaxCommits
	roots, flat := make([]int, n), make([]int, n)
	for i := range n {
		roots[i] = -1
	}
	flat[0] = -1
	all := stack(n + 1)[1:]
	lists(t, "Children of -1 of many roots", graph.Children(roots, -1), all)
	lists(t, "Under of one of many roots", graph.Under(roots, 64), []int{64})
	number(t, "Base of two of many roots", graph.Base(roots, n-1, n-2), -1)
	lists(t, "Children of the one that has many", graph.Children(flat, 0), all[1:])
	lists(t, "Under of the one that has many", graph.Under(flat, 0), all)
	number(t, "Base of two of many on one", graph.Base(flat, n-1, n-2), 0)
}

func TestWhatIsHandedInStays(t *testing.T) {
	room := slices.Concat(forest(), []int{7, 99, -5})
	want := slices.Clone(room)
	l := room[:len(forest())]
	answers := [][]int{graph.Chain(l, 5), graph.Children(l, 0), graph.Under(l, 0)}
	graph.Right(l)
	graph.Above(l, 0, 5)
	graph.Base(l, 5, 7)
	for _, a := range answers {
		clear(a[:cap(a)])
	}
	if !slices.Equal(room, want) {
		t.Fatal("R3: what is handed in is changed, or the room behind it, or an answer shares it")
	}
	chain, children, under := graph.Chain(l, 5), graph.Children(l, 0), graph.Under(l, 0)
	clear(room)
	lists(t, "Chain of what is written into behind the call (R3)", chain, []int{5, 3, 1, 0})
	lists(t, "Children of what is written into behind the call (R3)", children, []int{1, 2})
	lists(t, "Under of what is written into behind the call (R3)", under, []int{0, 1, 2, 3, 5, 7})
}

func TestAnswersAreNewMemory(t *testing.T) {
	l := forest()
	for what, ask := range map[string]func([]int, int) []int{"Chain": graph.Chain, "Children": graph.Children, "Under": graph.Under} {
		one, other := ask(l, 0), ask(l, 0)
		want := slices.Clone(other)
		clear(one[:cap(one)])
		lists(t, what+" of which another answer was written into (R3)", other, want)
		lists(t, what+", asked once more (R3)", ask(l, 0), want)
	}
}

// An answer hangs on what was handed in alone: not on what was asked ahead of it, nor on what is asked beside it.
func TestAnswersHangOnWhatIsHandedInAlone(t *testing.T) {
	l := stack(200)
	var w sync.WaitGroup
	for n := range 4 {
		w.Go(func() {
			for i := n; i < 200; i += 4 {
				number(t, "Base beside others (R2)", graph.Base(l, i, 100), min(i, 100))
				truth(t, "Above beside others (R2)", graph.Above(l, 100, i), i >= 100)
				if got := len(graph.Under(l, i)); got != 200-i {
					t.Errorf("R2: Under beside others: %d; want %d", got, 200-i)
				}
			}
		})
	}
	w.Wait()
}
