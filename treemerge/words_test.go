package treemerge_test

import (
	"slices"
	"strings"
	"testing"

	"rick/api"
	"rick/merge3"
	"rick/path"
	"rick/similar"
	"rick/tree"
	"rick/treemerge"
)

// isElse answers where a file of base is in a side, by the document's words.
func isElse(base, side []api.File, p string) (api.File, bool) {
	if f, is := tree.Find(side, p); is {
		return f, true
	}
	for _, r := range similar.Renames(base, side) {
		if r.From == p {
			return tree.Find(side, r.To)
		}
	}
	return api.File{}, false
}

// addedElse answers what a side added, by the document's words.
func addedElse(base, side []api.File) []api.File {
	var l []api.File
	for _, f := range side {
		_, was := tree.Find(base, f.Path)
		moved := slices.ContainsFunc(similar.Renames(base, side), func(r api.Rename) bool { return r.To == f.Path })
		if !was && !moved {
			l = append(l, f)
		}
	}
	return l
}

// bothElse answers what a file of base came to that both sides have, and the kind of its clash.
func bothElse(f, a, b api.File) (api.File, int) {
	made, kind := a, 0
	if a.Path == f.Path {
		made.Path = b.Path
	} else if b.Path != f.Path && b.Path != a.Path {
		kind = api.ClashRename
	}
	if a.Exec == f.Exec {
		made.Exec = b.Exec
	}
	s, clean := merge3.Merge(f.Text, a.Text, b.Text)
	made.Text = s
	if !clean && kind == 0 {
		kind = api.ClashText
	}
	return made, kind
}

// mergeElse answers the merge of trees by the document's words.
func mergeElse(base, ours, theirs []api.File) ([]api.File, []api.Clash) {
	var made []api.File
	var all []api.Clash
	put := func(f api.File, kind int) {
		for _, there := range made {
			if path.Clash(there.Path, f.Path) {
				all = append(all, api.Clash{Path: f.Path, Kind: api.ClashPath, Text: f.Text})
				return
			}
		}
		made = append(made, f)
		if kind > 0 {
			all = append(all, api.Clash{Path: f.Path, Kind: kind, Text: f.Text})
		}
	}
	for _, f := range base {
		a, inOurs := isElse(base, ours, f.Path)
		b, inTheirs := isElse(base, theirs, f.Path)
		if inOurs && inTheirs {
			put(bothElse(f, a, b))
		} else if inOurs && a != f {
			put(a, api.ClashDelete)
		} else if inTheirs && b != f {
			put(b, api.ClashDelete)
		}
	}
	byOurs, byTheirs := addedElse(base, ours), addedElse(base, theirs)
	for _, a := range byOurs {
		b, both := tree.Find(byTheirs, a.Path)
		if !both || a == b {
			put(a, 0)
			continue
		}
		s, _ := merge3.Merge("", a.Text, b.Text)
		put(api.File{Path: a.Path, Exec: a.Exec, Text: s}, api.ClashAdd)
	}
	for _, b := range byTheirs {
		if _, both := tree.Find(byOurs, b.Path); !both {
			put(b, 0)
		}
	}
	slices.SortStableFunc(made, func(a, b api.File) int { return strings.Compare(a.Path, b.Path) })
	slices.SortStableFunc(all, func(a, b api.Clash) int { return strings.Compare(a.Path, b.Path) })
	return made, all
}

// agree asks whether Merge answers what the document says, and answers that.
func agree(t *testing.T, base, ours, theirs []api.File) ([]api.File, []api.Clash) {
	t.Helper()
	l, c, e := treemerge.Merge(base, ours, theirs)
	want, clashes := mergeElse(base, ours, theirs)
	if e != api.OK || !slices.Equal(l, want) || !slices.Equal(c, clashes) {
		t.Fatalf("P14.1: Merge of %s, %s, %s: %s, %s, error %d; want %s, %s", told(base), told(ours), told(theirs), told(l), told(c), e, told(want), told(clashes))
	}
	if !tree.Right(l) {
		t.Errorf("P14.1: Merge of %s, %s, %s is no tree: %s", told(base), told(ours), told(theirs), told(l))
	}
	return l, c
}

func TestMergeOfAllSmallTrees(t *testing.T) {
	var all [][]api.File
	for _, s := range []string{"", "a:1", "a:2", "a!:1", "b:1", "a/x:1", "a:"} {
		for _, more := range []string{"", " c:1", " c:2", " c/x:1"} {
			all = append(all, list(s+more))
		}
	}
	seen := map[int]int{}
	for _, base := range all {
		for _, ours := range all {
			for _, theirs := range all {
				_, c := agree(t, base, ours, theirs)
				for _, one := range c {
					seen[one.Kind]++
				}
			}
		}
	}
	if len(seen) != 5 {
		t.Errorf("clashes of the kinds %v", seen)
	}
}

// dice tells numbers that seem to come by chance, but are always the same.
type dice uint64

// roll answers a number from 0 to n - 1.
func (d *dice) roll(n int) int {
	*d = *d*6364136223846793005 + 1442695040888963407
	return int(uint64(*d) >> 33 % uint64(n))
}

// some answers a text of up to 5 lines, of few kinds.
func (d *dice) some() string {
	var s strings.Builder
	for range d.roll(6) {
		s.WriteByte("abcdef"[d.roll(6)])
	}
	return text(s.String())
}

// edited answers s with some of its lines changed.
func (d *dice) edited(s string) string {
	l := strings.SplitAfter(s, "\n")
	for range d.roll(3) {
		at := d.roll(len(l))
		if d.roll(2) == 0 {
			l = slices.Insert(l, at, text(string(rune('u'+d.roll(4)))))
		} else {
			l = slices.Delete(l, at, min(at+1, len(l)-1))
		}
	}
	return strings.Join(l, "")
}

// somePath answers one of the paths that are used.
func (d *dice) somePath() string {
	l := []string{"a", "a-", "a/b", "a/b/c", "a/c", "b", "b/a", "c", "d", "e/f"}
	return l[d.roll(len(l))]
}

// tree answers a tree of up to n files.
func (d *dice) tree(n int) []api.File {
	var made []api.File
	for range d.roll(n + 1) {
		made = put(made, api.File{Path: d.somePath(), Exec: d.roll(4) == 0, Text: d.some()})
	}
	return made
}

// put answers l with f in it, if it may be.
func put(l []api.File, f api.File) []api.File {
	if made, e := tree.Put(l, f); e == api.OK {
		return made
	}
	return l
}

// side answers a tree that was made of base: files are dropped, moved, changed, added.
func (d *dice) side(base []api.File) []api.File {
	made := slices.Clone(base)
	for _, f := range base {
		switch d.roll(6) {
		case 0:
			made, _ = tree.Drop(made, f.Path)
		case 1, 2:
			without, _ := tree.Drop(made, f.Path)
			f.Path = d.somePath()
			if _, is := tree.Find(without, f.Path); !is {
				f.Text = d.edited(f.Text)
				made = put(without, f)
			}
		case 3, 4:
			made = put(made, api.File{Path: f.Path, Exec: d.roll(3) == 0, Text: d.edited(f.Text)})
		}
	}
	for range d.roll(3) {
		made = put(made, api.File{Path: d.somePath(), Exec: d.roll(4) == 0, Text: d.some()})
	}
	return made
}

func TestMergeByTheDocumentsWords(t *testing.T) {
	d := dice(14)
	seen, count := map[int]int{}, map[int]int{}
	for range 8_000 {
		base := d.tree(8)
		_, c := agree(t, base, d.side(base), d.side(base))
		for _, one := range c {
			seen[one.Kind]++
		}
		count[min(len(c), 4)]++
	}
	for kind := api.ClashText; kind <= api.ClashPath; kind++ {
		if seen[kind] < 300 {
			t.Errorf("%d clashes of kind %d", seen[kind], kind)
		}
	}
	if len(count) != 5 || count[0] < 1_000 {
		t.Errorf("clashes by how many there are: %v", count)
	}
}

func TestWhereOneSideIsAsBaseTheWholeIsTheOtherOne(t *testing.T) {
	d := dice(140)
	for i := range 1_500 {
		base := d.tree(8)
		side := d.side(base)
		if i%3 == 0 {
			side = d.tree(8)
		}
		one, c, e := treemerge.Merge(base, base, side)
		two, g, h := treemerge.Merge(base, side, base)
		if e != api.OK || h != api.OK || len(c)+len(g) > 0 || !tree.Same(one, side) || !tree.Same(two, side) {
			t.Fatalf("What follows: Merge of %s, and but one other side, %s: %s, %s, error %d; %s, %s, error %d", told(base), told(side), told(one), told(c), e, told(two), told(g), h)
		}
	}
}

func TestBothSidesTheSame(t *testing.T) {
	d := dice(1400)
	for range 1_500 {
		base := d.tree(8)
		side := d.side(base)
		l, c, e := treemerge.Merge(base, side, slices.Clone(side))
		if e != api.OK || len(c) > 0 || !tree.Same(l, side) {
			t.Fatalf("P14.1: Merge of %s, and twice %s: %s, %s, error %d", told(base), told(side), told(l), told(c), e)
		}
	}
}
