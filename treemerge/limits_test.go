package treemerge_test

import (
	"fmt"
	"slices"
	"strings"
	"testing"

	"rick/api"
	"rick/tree"
	"rick/treemerge"
)

// many answers a tree of n files, whose paths begin with name.
func many(name string, n int) []api.File {
	var l []api.File
	for i := range n {
		l = append(l, api.File{Path: fmt.Sprintf("%s%04d", name, i), Text: fmt.Sprintf("%s %d\n", name, i)})
	}
	return l
}

// one answers a tree of one file, of n bytes, each of its lines of that character.
func one(path, char string, n int) []api.File {
	return []api.File{{Path: path, Text: strings.Repeat(char, n%2) + strings.Repeat(char+"\n", n/2)}}
}

// joined answers trees, one behind the other.
func joined(l ...[]api.File) []api.File { return slices.Concat(l...) }

func TestTheLimits(t *testing.T) {
	if api.MaxFiles != 100 || api.MaxText != 20_000 || api.ErrForm != 5 || api.ErrLimit != 6 {
		t.Fatalf("limits: %d, %d; errors: %d, %d", api.MaxFiles, api.MaxText, api.ErrForm, api.ErrLimit)
	}
	const marks = 13 + 13 + 8 + 15 // bytes of the four marks
	longer := func(head, tail int) []api.File {
		return []api.File{{Path: "f", Text: strings.Repeat("h", head) + "\nmiddle\n" + strings.Repeat("t", tail) + "\n"}}
	}
	for _, r := range []struct {
		what               string
		base, ours, theirs []api.File
		want               api.Errno
		files, clashes     int
	}{
		{"files of both", nil, many("a", 50), many("b", 50), api.OK, 100, 0},
		{"too many files of both", nil, many("a", 50), many("b", 51), api.ErrLimit, 0, 0},
		{"far too many files of both", nil, many("a", 100), many("b", 100), api.ErrLimit, 0, 0},
		{"as many files as may be, of both the same", nil, many("a", 100), many("a", 100), api.OK, 100, 0},
		{"as many files as may be, in all", many("a", 100), many("a", 100), many("a", 100), api.OK, 100, 0},
		{"as many files as may be, all others now", many("a", 100), many("b", 100), many("a", 100), api.OK, 100, 0},
		{"as many files as may be, which are gone", many("a", 100), nil, many("a", 100), api.OK, 0, 0},
		{"files that are gone, and others instead", many("a", 100), many("a", 40), joined(many("a", 100)[40:], many("b", 40)), api.OK, 40, 0},
		{"one that is too many, but is left out", nil, many("a", 100), []api.File{{Path: "a0000/x"}}, api.OK, 100, 1},
		{"one that is too many, and one that is left out", nil, many("a", 100), []api.File{{Path: "a0000/x"}, {Path: "b"}}, api.ErrLimit, 0, 0},
		{"long texts that were added", nil, one("f", "o", 10_000), one("f", "t", 10_000-marks-1), api.OK, 1, 1},
		{"long texts that were added, of just so many bytes", nil, one("f", "o", 10_000), []api.File{{Path: "f", Text: strings.Repeat("t", 10_000-marks-1) + "\n"}}, api.OK, 1, 1},
		{"texts that were added, of a byte more", nil, one("f", "o", 10_000), []api.File{{Path: "f", Text: strings.Repeat("t", 10_000-marks) + "\n"}}, api.ErrLimit, 0, 0},
		{"texts that were added, to which newlines are, too", nil, one("f", "o", 10_000), []api.File{{Path: "f", Text: strings.Repeat("t", 10_000-marks)}}, api.ErrLimit, 0, 0},
		{"the longest text, in all", one("f", "b", 20_000), one("f", "b", 20_000), one("f", "b", 20_000), api.OK, 1, 0},
		{"the longest text, added by both", nil, one("f", "b", 20_000), one("f", "b", 20_000), api.OK, 1, 0},
		{"a text that both make longer", longer(9, 9), longer(10_000, 9), longer(9, 9_991), api.OK, 1, 0},
		{"a text that both make too long", longer(9, 9), longer(10_000, 9), longer(9, 9_992), api.ErrLimit, 0, 0},
		{"a text that clashes, and is too long", one("f", "b", 4_000), one("f", "o", 12_000), one("f", "t", 12_000), api.ErrLimit, 0, 0},
		{"a text that clashes, of so many bytes", one("f", "b", 4_000), one("f", "o", 8_000), one("f", "t", 8_000-marks-1), api.OK, 1, 1},
		{"a text that clashes, of a byte more", one("f", "b", 4_000), one("f", "o", 8_000), []api.File{{Path: "f", Text: strings.Repeat("t", 8_000-marks) + "\n"}}, api.ErrLimit, 0, 0},
	} {
		l, c, e := treemerge.Merge(r.base, r.ours, r.theirs)
		if e != r.want || len(l) != r.files || len(c) != r.clashes {
			t.Errorf("P14.1: Merge of %s: %d files, %d clashes, error %d; want %d, %d, %d", r.what, len(l), len(c), e, r.files, r.clashes, r.want)
		}
	}
}

func TestATextThatIsLeftOutMayBeTooLong(t *testing.T) {
	// f is put where g had to be.
	base := []api.File{{Path: "f", Text: "1\n2\n3\n"}, {Path: "g", Text: strings.Repeat("k\n", 50) + "x\n"}}
	ours := []api.File{base[0], {Path: "n", Text: strings.Repeat("k\n", 50) + strings.Repeat("o", 15_000) + "\n"}}
	theirs := []api.File{{Path: "g", Text: strings.Repeat("k\n", 50) + strings.Repeat("t", 15_000) + "\n"}, {Path: "n", Text: "1\n2\n3\n"}}
	l, c, e := treemerge.Merge(base, ours, theirs)
	if e != api.OK || len(l) != 1 || l[0] != theirs[1] || len(c) != 1 || c[0].Path != "n" || c[0].Kind != api.ClashPath || len(c[0].Text) < 30_000 {
		t.Errorf("P14.1: Merge of what is left out, and too long: %d files, %d clashes, error %d", len(l), len(c), e)
	}
}

func TestMergeOfWhatIsNoTree(t *testing.T) {
	long := api.File{Path: "a", Text: strings.Repeat("x", api.MaxText+1)}
	good := list("a:1 b:2")
	for what, bad := range map[string][]api.File{
		"falling paths":                 list("b:2 a:1"),
		"one path twice":                list("a:1 a:1"),
		"a file within another one":     list("a:1 a/b:2"),
		"a file within one further off": list("a:1 a-b:3 a/b:2"),
		"no path":                       {{Text: "1"}},
		"a path that may not be":        list("a//b:1"),
		"the folder above it":           list("../a:1"),
		"a path too long":               {{Path: strings.Repeat("p", api.MaxPath+1)}},
		"a text too long":               {long},
		"too many files":                many("a", 101),
	} {
		for i, r := range [][3][]api.File{{bad, good, good}, {good, bad, good}, {good, good, bad}, {bad, bad, bad}, {bad, nil, nil}, {nil, bad, nil}, {nil, nil, bad}, {bad, many("a", 100), many("b", 100)}, {many("a", 3), bad, many("b", 100)}, {nil, many("c", 100), bad}} {
			l, c, e := treemerge.Merge(r[0], r[1], r[2])
			if e != api.ErrForm || len(l)+len(c) > 0 {
				t.Errorf("P14.1: Merge of %s, %d: %d files, %d clashes, error %d; want error 5", what, i, len(l), len(c), e)
			}
		}
	}
}

func TestAnErrorComesAlone(t *testing.T) {
	// Some of it clashes, too.
	base, ours, theirs := list("a:abc"), joined(list("a:axc"), many("b", 60)), joined(list("a:ayc"), many("c", 60))
	if l, c, e := treemerge.Merge(base, ours, theirs); e != api.ErrLimit || l != nil || c != nil {
		t.Errorf("R4: Merge of too much: %d files, %d clashes, error %d; want error 6", len(l), len(c), e)
	}
}

// roomy answers l with room behind its end, and all of it, so that what is written there is seen.
func roomy(l []api.File) (out, all []api.File) {
	all = append(slices.Clone(l), list("room:r room:r room:r room:r room:r")...)
	return all[:len(l)], all
}

// rich answers three trees of which all kinds of clashes come.
func rich() (base, ours, theirs []api.File) {
	return list("d:abc f:abc m:xyz r:rst"), list("f:axc n:xyz p:p q:p r1:rst"), list("d:abk f:ayc m:xyz n:w q:q r2:rst z:z")
}

func TestWhatIsHandedInIsNotChanged(t *testing.T) {
	a, b, c := rich()
	base, allBase := roomy(a)
	ours, allOurs := roomy(b)
	theirs, allTheirs := roomy(c)
	want := [3][]api.File{slices.Clone(allBase), slices.Clone(allOurs), slices.Clone(allTheirs)}
	for i := range len(base) + 1 {
		for j := range len(ours) + 1 {
			for k := range len(theirs) + 1 {
				treemerge.Merge(base[:i], ours[:j], theirs[:k])
				treemerge.Merge(theirs[:k], base[:i], ours[:j])
			}
		}
	}
	if !slices.Equal(allBase, want[0]) || !slices.Equal(allOurs, want[1]) || !slices.Equal(allTheirs, want[2]) {
		t.Errorf("R3: files that were handed in were changed: %s, %s, %s", told(allBase), told(allOurs), told(allTheirs))
	}
}

func TestWhatIsHandedOutIsNew(t *testing.T) {
	base, ours, theirs := rich()
	one, clash, _ := treemerge.Merge(base, ours, theirs)
	two, other, _ := treemerge.Merge(base, ours, theirs)
	want, wanted := slices.Clone(two), slices.Clone(other)
	clear(one[:cap(one)])
	clear(clash[:cap(clash)])
	clear(base)
	clear(ours)
	clear(theirs)
	if !slices.Equal(two, want) || !slices.Equal(other, wanted) {
		t.Errorf("R3: who writes into an answer changes another one: %s, %s", told(two), told(other))
	}
	for _, s := range []string{"", "a:1", "a:1 b:2 c:3"} {
		l := list(s)
		got, _, _ := treemerge.Merge(l, l, l)
		clear(got[:cap(got)])
		if !tree.Same(l, list(s)) {
			t.Errorf("R3: who writes into an answer changes what was handed in: %s", told(l))
		}
	}
}

func TestAnAnswerHangsOnNoCallAheadOfIt(t *testing.T) {
	base, ours, theirs := rich()
	want := list("d:abk f:a<x|b=y>c n:xyz p:p q:<p|=q> r1:rst z:z")
	wanted := clashes("D:d:abk T:f:a<x|b=y>c P:n:w A:q:<p|=q> R:r1:rst")
	for range 50 {
		l, c, e := treemerge.Merge(base, ours, theirs)
		if e != api.OK || !slices.Equal(l, want) || !slices.Equal(c, wanted) {
			t.Fatalf("R2: Merge of all kinds of clashes: %s, %s, error %d; want %s, %s", told(l), told(c), e, told(want), told(wanted))
		}
		treemerge.Merge(theirs, base, ours)
		treemerge.Merge(base, many("a", 100), many("b", 100))
	}
}

func TestMergeOfFullTrees(t *testing.T) {
	var base, ours, theirs []api.File
	for i := range api.MaxFiles {
		lines := make([]string, 150)
		for k := range lines {
			lines[k] = fmt.Sprintf("line %d of %d\n", k, i)
		}
		f := func(path string, at int) api.File {
			l := slices.Clone(lines)
			l[at] = "another one\n"
			return api.File{Path: path, Text: strings.Join(l, "")}
		}
		base = append(base, api.File{Path: fmt.Sprintf("a/%03d", i), Text: strings.Join(lines, "")})
		ours = append(ours, f(fmt.Sprintf("b/%03d", i), 10))
		theirs = append(theirs, f(fmt.Sprintf("a/%03d", i), 140))
	}
	l, c, e := treemerge.Merge(base, ours, theirs)
	if e != api.OK || len(c) > 0 || len(l) != len(base) {
		t.Fatalf("P14.1: Merge of full trees: %d files, %d clashes, error %d", len(l), len(c), e)
	}
	for i, f := range l {
		if f.Path != ours[i].Path || strings.Count(f.Text, "another one\n") != 2 || strings.Count(f.Text, "\n") != 150 {
			t.Errorf("P14.1: Merge of full trees: %s", told(f))
		}
	}
}
