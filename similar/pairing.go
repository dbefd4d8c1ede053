package similar

import (
	"cmp"
	"slices"
	"strings"

	"rick/api"
	"rick/tree"
)

// none is the place of no file.
const none = -1

// twin is what a file is found by among those of just the same text: that text, and how many files of it stand ahead.
type twin struct {
	text  string
	ahead int
}

// match is a file of base and one of side, by their places, and their ratio.
type match struct{ from, to, ratio int }

// pairing is the files of base and of side that may have moved, in order; by their places, to tells of each of base which one of side it is paired with, and from of each of side which one of base.
type pairing struct {
	base, side []api.File
	to, from   []int
}

// newPairing answers the pairing of those files, of which none is paired yet.
func newPairing(base, side []api.File) *pairing {
	return &pairing{
		base: base,
		side: side,
		to:   slices.Repeat([]int{none}, len(base)),
		from: slices.Repeat([]int{none}, len(side)),
	}
}

// lone answers those of l that may have moved: those with a text, of a path that is none of the others'.
func lone(l, others []api.File) []api.File {
	var found []api.File
	for _, f := range l {
		if _, stays := tree.Find(others, f.Path); !stays && f.Text != "" {
			found = append(found, f)
		}
	}
	return found
}

// join pairs two files, if both are left.
func (p *pairing) join(from, to int) {
	if p.to[from] == none && p.from[to] == none {
		p.to[from], p.from[to] = to, from
	}
}

// joinTwins pairs the files of just the same text: of each text the first one of base with the first one of side, and so on.
func (p *pairing) joinTwins() {
	at := map[twin]int{}
	for to, t := range twins(p.side) {
		at[t] = to
	}
	for from, t := range twins(p.base) {
		if to, is := at[t]; is {
			p.join(from, to)
		}
	}
}

// twins answers what each of l is found by.
func twins(l []api.File) []twin {
	ahead := map[string]int{}
	var found []twin
	for _, f := range l {
		found = append(found, twin{text: f.Text, ahead: ahead[f.Text]})
		ahead[f.Text]++
	}
	return found
}

// joinAlike pairs the files that are left and alike, those that are most alike first.
func (p *pairing) joinAlike() {
	for _, m := range p.matches() {
		p.join(m.from, m.to)
	}
}

// matches answers each two files that are left and alike, the greatest ratio first; of several the first of base, and of these the first of side.
func (p *pairing) matches() []match {
	side := left(p.side, p.from)
	var l []match
	for _, a := range left(p.base, p.to) {
		for _, b := range side {
			if r, is := alike(a, b); is {
				l = append(l, match{from: a.at, to: b.at, ratio: r})
			}
		}
	}
	// What is found stands in order already: only a stable sort keeps it.
	slices.SortStableFunc(l, func(a, b match) int {
		return cmp.Compare(b.ratio, a.ratio)
	})
	return l
}

// left answers the texts of those of l that are not paired; with tells what each is paired with.
func left(l []api.File, with []int) []text {
	var found []text
	for at, f := range l {
		if with[at] == none {
			found = append(found, textOf(f, at))
		}
	}
	return found
}

// renames answers the pairs by rising paths of base; those of one path stay in the order of base.
func (p *pairing) renames() []api.Rename {
	var l []api.Rename
	for from, to := range p.to {
		if to != none {
			l = append(l, api.Rename{From: p.base[from].Path, To: p.side[to].Path})
		}
	}
	slices.SortStableFunc(l, func(a, b api.Rename) int {
		return strings.Compare(a.From, b.From)
	})
	return l
}
