package tree_test

import (
	"fmt"
	"slices"
	"strings"
	"testing"

	"rick/api"
	"rick/tree"
)

// file is one that may not be run.
func file(path, text string) api.File { return api.File{Path: path, Text: text} }

// tool is one that may be run.
func tool(path, text string) api.File { return api.File{Path: path, Exec: true, Text: text} }

// files answers one file of each of these paths, in order, each with a text of its own.
func files(paths ...string) []api.File {
	var l []api.File
	for _, p := range paths {
		l = append(l, file(p, "text of "+p))
	}
	return l
}

// many answers a tree of n files.
func many(n int) []api.File {
	var l []api.File
	for i := range n {
		l = append(l, file(fmt.Sprintf("f%05d", i), fmt.Sprint(i)))
	}
	return l
}

// long is a text of n bytes.
func long(n int) string { return strings.Repeat("x", n) }

func TestTheDocumentsExample(t *testing.T) {
	a := []api.File{file("a", "1"), tool("b/c", "2")}
	if l := tree.Changes(a, a); len(l) != 0 {
		t.Errorf("P12.2: Changes of a, a: %+v; want none", l)
	}
}

func TestTheLimits(t *testing.T) {
	if api.MaxFiles != 100 || api.MaxText != 20_000 || api.MaxPath != 100 || api.MaxChanges != 100 {
		t.Fatalf("limits: %d, %d, %d, %d", api.MaxFiles, api.MaxText, api.MaxPath, api.MaxChanges)
	}
}

func TestRight(t *testing.T) {
	for _, c := range []struct {
		l    []api.File
		want bool
	}{
		{nil, true},
		{[]api.File{}, true},
		{files("a"), true},
		{files("a", "b"), true},
		{files("a", "aa", "b"), true},
		{files("A", "B", "a", "b"), true},
		{files("a/b", "a/c", "b/a"), true},
		{files("a-b", "a/b", "a0b"), true},
		{files("a/b/c", "a/b0", "a/c"), true},
		{files("a/b-", "a/b/c"), true},
		{files("a.", "a/b", "a0", "a0b"), true},
		{files("ab/c", "b/c", "c"), true},
		{[]api.File{tool("a", ""), file("b", "a\x00\xff")}, true},

		{files("b", "a"), false},
		{files("a", "a"), false},
		{files("a", "B"), false},
		{files("a", "c", "b"), false},
		{files("b", "a", "c"), false},
		{files("a", "b", "b"), false},
		{files("aa", "a"), false},
		{files("a0", "a/b"), false},
		{files("a/b", "a-b"), false},
		{[]api.File{file("a", "1"), tool("a", "2")}, false},

		{files("a", "a/b"), false},
		{files("a", "a/b/c"), false},
		{files("a/b", "a/b/c"), false},
		{files("a", "a-b", "a/b"), false},
		{files("a", "a!", "a#/b", "a-b", "a.b", "a/b"), false},
		{files("a/b", "a/b-c", "a/b/c"), false},
		{files("a", "a-b/c", "a/b/c/d/e"), false},
		{files("0", "a/b/c", "a/b/c-d", "a/b/c/d/e", "z"), false},

		{files(""), false},
		{files("", "a"), false},
		{files("a//b"), false},
		{files("/a"), false},
		{files("a/"), false},
		{files("."), false},
		{files("..", "a"), false},
		{files("a", "a b"), false},
		{files("a", "b", "c\n"), false},
		{files("a", "\xc3\xa4"), false},
	} {
		if got := tree.Right(c.l); got != c.want {
			t.Errorf("P12.1: Right of %q: %v; want %v", names(c.l), got, c.want)
		}
	}
}

// names answers the paths of l, in order.
func names(l []api.File) []string {
	var all []string
	for _, f := range l {
		all = append(all, f.Path)
	}
	return all
}

func TestRightCountsFiles(t *testing.T) {
	for _, n := range []int{0, 1, 2, 99, 100, 101, 102, 127, 128, 200, 256, 300, 356, 65_536, 65_636} {
		if got, want := tree.Right(many(n)), n <= 100; got != want {
			t.Errorf("P12.1: Right of %d files: %v; want %v", n, got, want)
		}
	}
}

func TestRightAsksEachFile(t *testing.T) {
	for n := 1; n <= 100; n++ {
		for _, at := range []int{0, n / 3, n / 2, n - 1} {
			for _, c := range []struct {
				f    api.File
				want bool
			}{
				{file(many(n)[at].Path, long(20_000)), true},
				{file(many(n)[at].Path, long(20_001)), false},
				{file(many(n)[at].Path+"/"+long(93), ""), true},
				{file(many(n)[at].Path+"/"+long(94), ""), false},
				{file(many(n)[at].Path+"//a", ""), false},
				{file(many(n)[at].Path+" ", ""), false},
			} {
				l := many(n)
				l[at] = c.f
				if got := tree.Right(l); got != c.want {
					t.Errorf("P12.1: Right of %d files, of which the one at %d is %.120q, with %d bytes: %v; want %v", n, at, c.f.Path, len(c.f.Text), got, c.want)
				}
			}
		}
	}
}

func TestRightCountsBytesOfATextNotRunes(t *testing.T) {
	for _, c := range []struct {
		text string
		want bool
	}{
		{long(19_999), true},
		{long(20_000), true},
		{long(20_001), false},
		{long(65_536), false},
		{long(65_537), false},
		{long(300_000), false},
		{strings.Repeat("\u00e4", 10_000), true},
		{strings.Repeat("\u00e4", 10_001), false},
		{strings.Repeat("\n", 20_000), true},
		{strings.Repeat("\n", 20_001), false},
		{strings.Repeat("\x00", 20_000), true},
		{strings.Repeat("\x00", 20_001), false},
	} {
		if got := tree.Right([]api.File{file("a", c.text)}); got != c.want {
			t.Errorf("P12.1: Right of a text of %d bytes: %v; want %v", len(c.text), got, c.want)
		}
	}
}

// folder is what a folder has, by names: a folder, or nil where a file stands.
type folder map[string]folder

// write makes a file of that path, and the folders about it; false, if something else stands there.
func (f folder) write(p string) bool {
	l := strings.Split(p, "/")
	for _, name := range l[:len(l)-1] {
		below, is := f[name]
		if is && below == nil {
			return false
		}
		if !is {
			below = folder{}
			f[name] = below
		}
		f = below
	}
	name := l[len(l)-1]
	if _, is := f[name]; is {
		return false
	}
	f[name] = nil
	return true
}

// rightElse tells whether all of l could be written to folders, in that order, by another way than the program's. (Of paths that are right, and not too many.)
func rightElse(l []api.File) bool {
	disk := folder{}
	for i, f := range l {
		if i > 0 && strings.Compare(l[i-1].Path, f.Path) >= 0 || !disk.write(f.Path) {
			return false
		}
	}
	return true
}

// fewPaths are right, and some of them clash, not only with those that stand just beside them.
func fewPaths() []string {
	return []string{"a", "a-", "a-/b", "a/b", "a/b-", "a/b/c", "a/c", "a0", "b", "b/a"}
}

// each calls with all lists of up to n of these paths.
func each(n int, paths []string, call func([]string)) {
	var more func(l []string)
	more = func(l []string) {
		call(l)
		if len(l) == n {
			return
		}
		for _, p := range paths {
			more(append(slices.Clip(l), p))
		}
	}
	more(nil)
}

func TestRightOfAllShortLists(t *testing.T) {
	trees := 0
	each(4, fewPaths(), func(l []string) {
		got, want := tree.Right(files(l...)), rightElse(files(l...))
		if got != want {
			t.Errorf("P12.1: Right of %q: %v; want %v", l, got, want)
		}
		if want {
			trees++
		}
	})
	if trees < 100 {
		t.Errorf("only %d trees", trees)
	}
}

// subtrees answers all trees that have some of these paths.
func subtrees(paths []string) [][]api.File {
	var all [][]api.File
	for set := range 1 << len(paths) {
		var l []api.File
		for i, p := range paths {
			if set>>i&1 == 1 {
				l = append(l, file(p, "text of "+p))
			}
		}
		if rightElse(l) {
			all = append(all, l)
		}
	}
	return all
}

func TestRightOfAllSetsOfPaths(t *testing.T) {
	paths := fewPaths()
	if !slices.IsSorted(paths) {
		t.Fatal("they do not rise")
	}
	for set := range 1 << len(paths) {
		var l []api.File
		for i, p := range paths {
			if set>>i&1 == 1 {
				l = append(l, file(p, ""))
			}
		}
		if got, want := tree.Right(l), rightElse(l); got != want {
			t.Errorf("P12.1: Right of %q: %v; want %v", names(l), got, want)
		}
	}
}

func TestFind(t *testing.T) {
	l := []api.File{file("a", "1"), tool("b/c", "2"), file("b/d", "")}
	for _, f := range l {
		if got, is := tree.Find(l, f.Path); !is || got != f {
			t.Errorf("P12.1: Find of %q: %+v, %v; want %+v", f.Path, got, is, f)
		}
	}
	for _, p := range []string{"", "b", "b/", "b/c/", "b/cc", "c", "A", "/a", "a/1", "a\x00", "d", "b/c/d"} {
		if got, is := tree.Find(l, p); is || got != (api.File{}) {
			t.Errorf("P12.1: Find of %q, which is not there: %+v, %v", p, got, is)
		}
		if got, is := tree.Find(nil, p); is || got != (api.File{}) {
			t.Errorf("P12.1: Find of %q in nothing: %+v, %v", p, got, is)
		}
	}
}

func TestFindInWhatIsNoTree(t *testing.T) {
	l := []api.File{file("z", "1"), tool("", "2"), file("a", "3"), file("a", "4"), file("a//b", "5"), tool("", "6"), file("a/", "7"), file("A", "8"), tool("z", "9")}
	for p, want := range map[string]api.File{"z": l[0], "": l[1], "a": l[2], "a//b": l[4], "a/": l[6], "A": l[7]} {
		if got, is := tree.Find(l, p); !is || got != want {
			t.Errorf("P12.1: Find of %q: %+v, %v; want the first one, %+v", p, got, is, want)
		}
	}
	if got, is := tree.Find(l, "b"); is || got != (api.File{}) {
		t.Errorf("P12.1: Find of what is not there: %+v", got)
	}
	big := append(many(500), file("last", "1"))
	if got, is := tree.Find(big, "last"); !is || got != file("last", "1") {
		t.Errorf("P12.1: Find of the last one of many: %+v, %v", got, is)
	}
}

func TestPut(t *testing.T) {
	l := []api.File{file("a", "1"), file("b/c", "2"), tool("b/d", "3")}
	for _, c := range []struct {
		f    api.File
		want []api.File
	}{
		{file("0", "n"), []api.File{file("0", "n"), l[0], l[1], l[2]}},
		{tool("aa", "n"), []api.File{l[0], tool("aa", "n"), l[1], l[2]}},
		{file("a-", ""), []api.File{l[0], file("a-", ""), l[1], l[2]}},
		{file("b-", ""), []api.File{l[0], file("b-", ""), l[1], l[2]}},
		{file("b/cc", "n"), []api.File{l[0], l[1], file("b/cc", "n"), l[2]}},
		{file("b/b/b", "n"), []api.File{l[0], file("b/b/b", "n"), l[1], l[2]}},
		{file("b0", "n"), []api.File{l[0], l[1], l[2], file("b0", "n")}},
		{tool("z", ""), []api.File{l[0], l[1], l[2], tool("z", "")}},
		{file("A", ""), []api.File{file("A", ""), l[0], l[1], l[2]}},
		{file("z", long(20_000)), []api.File{l[0], l[1], l[2], file("z", long(20_000))}},
		{file(long(100), "n"), []api.File{l[0], l[1], l[2], file(long(100), "n")}},

		{tool("a", "n"), []api.File{tool("a", "n"), l[1], l[2]}},
		{tool("a", "1"), []api.File{tool("a", "1"), l[1], l[2]}},
		{file("b/c", ""), []api.File{l[0], file("b/c", ""), l[2]}},
		{file("b/d", "3"), []api.File{l[0], l[1], file("b/d", "3")}},
		{tool("b/d", "3"), l},
		{file("a", long(20_000)), []api.File{file("a", long(20_000)), l[1], l[2]}},
	} {
		got, e := tree.Put(l, c.f)
		if e != api.OK || !slices.Equal(got, c.want) || !tree.Right(got) {
			t.Errorf("P12.1: Put of %q: %q, error %d; want %q", c.f.Path, names(got), e, names(c.want))
		}
	}
	if got, e := tree.Put(nil, tool("a", "1")); e != api.OK || !slices.Equal(got, []api.File{tool("a", "1")}) {
		t.Errorf("P12.1: Put into nothing: %+v, error %d", got, e)
	}
}

func TestPutOfWhatMayNotBe(t *testing.T) {
	l := files("a", "b/c", "b/d/e")
	for _, c := range []struct {
		l    []api.File
		f    api.File
		want api.Errno
	}{
		{l, file("", ""), api.ErrPath},
		{l, file("q//r", ""), api.ErrPath},
		{l, file("q/", ""), api.ErrPath},
		{l, file("/q", ""), api.ErrPath},
		{l, file("..", ""), api.ErrPath},
		{l, file("q r", ""), api.ErrPath},
		{l, file("\xc3\xa4", ""), api.ErrPath},
		{l, file(long(101), ""), api.ErrPath},
		{l, file("q", long(20_001)), api.ErrLimit},
		{l, file("a", long(20_001)), api.ErrLimit},
		{l, file("a/b", ""), api.ErrPath},
		{l, file("a/b/c", ""), api.ErrPath},
		{l, file("b", ""), api.ErrPath},
		{l, file("b/d", ""), api.ErrPath},
		{l, file("b/c/d", ""), api.ErrPath},
		{l, file("b/d/e/f/g", ""), api.ErrPath},
		{files("a-b", "a/b"), file("a", ""), api.ErrPath},
		{files("a", "a-b"), file("a/b", ""), api.ErrPath},
		{files("b", "a"), file("c", ""), api.ErrForm},
		{files("b", "a"), file("a", ""), api.ErrForm},
		{files("a", "a"), file("b", ""), api.ErrForm},
		{files("a", "a/b"), file("c", ""), api.ErrForm},
		{files(""), file("c", ""), api.ErrForm},
		{[]api.File{file("a", long(20_001))}, file("a", ""), api.ErrForm},
		{many(101), file("f00000", ""), api.ErrForm},
	} {
		if got, e := tree.Put(c.l, c.f); e != c.want || len(got) != 0 {
			t.Errorf("P12.1: Put of %.110q, with %d bytes, to %.60q: %q, error %d; want %d", c.f.Path, len(c.f.Text), names(c.l), names(got), e, c.want)
		}
	}
}

func TestPutToAFullTree(t *testing.T) {
	for _, n := range []int{98, 99, 100} {
		l := many(n)
		want := api.OK
		if n == 100 {
			want = api.ErrLimit
		}
		for _, p := range []string{"a", "f00050a", "z"} {
			got, e := tree.Put(l, file(p, ""))
			room := n + 1
			if want != api.OK {
				room = 0
			}
			if e != want || len(got) != room || !tree.Right(got) {
				t.Errorf("P12.1: Put of %q to %d files: %d files, error %d; want %d", p, n, len(got), e, want)
			}
		}
		for _, at := range []int{0, 50, n - 1} {
			got, e := tree.Put(l, tool(l[at].Path, "n"))
			if e != api.OK || len(got) != n || got[at] != tool(l[at].Path, "n") || !tree.Right(got) {
				t.Errorf("P12.1: Put in the place of the file at %d of %d: %d files, error %d", at, n, len(got), e)
			}
		}
		if got, e := tree.Put(l, file("f00050/a", "")); e != api.ErrPath || len(got) != 0 {
			t.Errorf("R5: Put of what clashes to %d files: error %d; want %d", n, e, api.ErrPath)
		}
	}
}

func TestOfErrorsOfPutTheFirstOneCounts(t *testing.T) {
	for set := range 1 << 5 {
		noTree, badPath, longText, isThere, full := set&1 > 0, set&2 > 0, set&4 > 0, set&8 > 0, set&16 > 0
		for _, clash := range []bool{false, true} {
			l := many(50)
			if full {
				l = many(100)
			}
			if noTree {
				l[1].Path = l[0].Path
			}
			f := file("g", "")
			if isThere {
				f = file(l[7].Path, "")
			}
			if clash {
				f.Path = l[7].Path + "/q"
			}
			if badPath {
				f.Path += "/"
			}
			if longText {
				f.Text = long(20_001)
			}
			want := api.OK
			switch {
			case noTree:
				want = api.ErrForm
			case badPath:
				want = api.ErrPath
			case longText:
				want = api.ErrLimit
			case clash:
				want = api.ErrPath
			case isThere:
			case full:
				want = api.ErrLimit
			}
			if got, e := tree.Put(l, f); e != want || e != api.OK && len(got) > 0 {
				t.Errorf("R5: Put of %q, with %d bytes, to %d files (a tree: %v): error %d; want %d", f.Path, len(f.Text), len(l), !noTree, e, want)
			}
		}
	}
}

// sorted answers l by rising paths.
func sorted(l []api.File) []api.File {
	out := slices.Clone(l)
	slices.SortFunc(out, func(a, b api.File) int { return strings.Compare(a.Path, b.Path) })
	return out
}

// without answers l but for the files of that path.
func without(l []api.File, p string) []api.File {
	var out []api.File
	for _, f := range l {
		if f.Path != p {
			out = append(out, f)
		}
	}
	return out
}

func TestPutAndDropOfAllSmallTrees(t *testing.T) {
	paths := fewPaths()
	for _, l := range subtrees(paths) {
		for _, p := range paths {
			f := tool(p, "new")
			want := sorted(append(without(l, p), f))
			got, e := tree.Put(l, f)
			if rightElse(want) {
				if e != api.OK || !slices.Equal(got, want) {
					t.Errorf("P12.1: Put of %q to %q: %+v, error %d; want %+v", p, names(l), got, e, want)
				}
			} else if e != api.ErrPath || len(got) != 0 {
				t.Errorf("P12.1: Put of %q to %q: %q, error %d; want %d", p, names(l), names(got), e, api.ErrPath)
			}

			want = without(l, p)
			got, e = tree.Drop(l, p)
			if len(want) < len(l) {
				if e != api.OK || !slices.Equal(got, want) {
					t.Errorf("P12.1: Drop of %q from %q: %+v, error %d; want %+v", p, names(l), got, e, want)
				}
			} else if e != api.ErrNone || len(got) != 0 {
				t.Errorf("P12.1: Drop of %q from %q: %q, error %d; want %d", p, names(l), names(got), e, api.ErrNone)
			}
		}
	}
}

func TestDrop(t *testing.T) {
	l := []api.File{file("a", "1"), tool("b/c", "2"), file("b/d", "3")}
	for i, f := range l {
		want := slices.Concat(l[:i], l[i+1:])
		if got, e := tree.Drop(l, f.Path); e != api.OK || !slices.Equal(got, want) {
			t.Errorf("P12.1: Drop of %q: %+v, error %d; want %+v", f.Path, got, e, want)
		}
	}
	for _, p := range []string{"", "0", "b", "b/", "b/c/d", "b/cc", "z", "A", "a//", "\xff", long(300)} {
		if got, e := tree.Drop(l, p); e != api.ErrNone || len(got) != 0 {
			t.Errorf("P12.1: Drop of %.20q, which is not there: %+v, error %d; want %d", p, got, e, api.ErrNone)
		}
		if got, e := tree.Drop(nil, p); e != api.ErrNone || len(got) != 0 {
			t.Errorf("P12.1: Drop of %.20q from nothing: %+v, error %d; want %d", p, got, e, api.ErrNone)
		}
	}
	if got, e := tree.Drop(files("a"), "a"); e != api.OK || len(got) != 0 {
		t.Errorf("P12.1: Drop of all: %+v, error %d", got, e)
	}
	if got, e := tree.Drop(many(100), "f00099"); e != api.OK || !slices.Equal(got, many(99)) {
		t.Errorf("P12.1: Drop from a full tree: %d files, error %d", len(got), e)
	}
	for _, l := range [][]api.File{files("b", "a"), files("a", "a"), files("a", "a/b"), files("a", ""), {file("a", long(20_001))}, many(101)} {
		for _, p := range []string{"a", "zz", ""} {
			if got, e := tree.Drop(l, p); e != api.ErrForm || len(got) != 0 {
				t.Errorf("P12.1: Drop of %q from %.60q, which is no tree: %q, error %d; want %d", p, names(l), names(got), e, api.ErrForm)
			}
		}
	}
}

func TestSame(t *testing.T) {
	l := []api.File{file("a", "1"), tool("b", "2"), file("c", "")}
	turned := func(i int, turn func(*api.File)) []api.File {
		out := slices.Clone(l)
		turn(&out[i])
		return out
	}
	for what, c := range map[string]struct {
		a, b []api.File
		want bool
	}{
		"nothing twice":          {nil, nil, true},
		"nil and an empty list":  {nil, []api.File{}, true},
		"one alike":              {l, slices.Clone(l), true},
		"with room behind it":    {l, append(slices.Clone(l), l[0])[:3], true},
		"no trees, alike":        {files("b", "a", "a", ""), files("b", "a", "a", ""), true},
		"nothing and something":  {nil, l, false},
		"one file less":          {l, l[:2], false},
		"the first file less":    {l, l[1:], false},
		"a file more":            {l, append(slices.Clone(l), file("d", "")), false},
		"a file of nothing more": {l, append(slices.Clone(l), api.File{}), false},
		"one twice":              {l, append(slices.Clone(l), l[2]), false},
		"others in order":        {l, []api.File{l[0], l[2], l[1]}, false},
		"first path":             {l, turned(0, func(f *api.File) { f.Path = "A" }), false},
		"last path":              {l, turned(2, func(f *api.File) { f.Path = "c/" }), false},
		"first text":             {l, turned(0, func(f *api.File) { f.Text = "11" }), false},
		"last text":              {l, turned(2, func(f *api.File) { f.Text = "\x00" }), false},
		"first exec":             {l, turned(0, func(f *api.File) { f.Exec = true }), false},
		"middle exec":            {l, turned(1, func(f *api.File) { f.Exec = false }), false},
		"last exec":              {l, turned(2, func(f *api.File) { f.Exec = true }), false},
	} {
		if got := tree.Same(c.a, c.b); got != c.want {
			t.Errorf("P12.1: Same of %s: %v; want %v", what, got, c.want)
		}
		if got := tree.Same(c.b, c.a); got != c.want {
			t.Errorf("P12.1: Same of %s, the other way round: %v; want %v", what, got, c.want)
		}
	}
}

// roomy answers l with room behind its end, and all of it, so that what is written there is seen.
func roomy[E any](l []E, behind E) (out, all []E) {
	all = append(slices.Clone(l), behind, behind, behind)
	return all[:len(l)], all
}

func TestWhatIsHandedInIsNotChanged(t *testing.T) {
	l, all := roomy(files("b", "c", "d"), file("room", ""))
	c, changes := roomy([]api.Change{{Path: "c", Delete: true}, {Path: "a", Text: "n"}, {Path: "d", Exec: true}}, api.Change{Path: "room"})
	paths, texts := roomy([]string{"d", "c", "zz"}, "room")
	wantFiles, wantChanges, wantTexts := slices.Clone(all), slices.Clone(changes), slices.Clone(texts)
	b, other := roomy(files("a", "c", "e"), file("room", ""))
	wantOther := slices.Clone(other)

	tree.Right(l)
	tree.Find(l, "c")
	for _, p := range []string{"a", "b", "bb", "c", "d", "e", "c/d", "", "room"} {
		tree.Put(l, tool(p, "new"))
		tree.Drop(l, p)
		tree.Drop(l[:1], p)
		tree.Put(l[:1], tool(p, "new"))
		tree.Apply(l, []api.Change{{Path: p, Text: "new"}})
		tree.Apply(l[:1], []api.Change{{Path: p, Text: "new"}, {Path: p, Delete: true}})
	}
	tree.Apply(l, c)
	tree.Changes(l, b)
	tree.Changes(b, l)
	tree.Changes(l[:2], b[:1])
	tree.Only(c, paths)
	tree.Only(c[:1], paths[:1])
	tree.Same(l, b)
	if !slices.Equal(all, wantFiles) || !slices.Equal(other, wantOther) {
		t.Errorf("R3: files that were handed in were changed: %+v, %+v", all, other)
	}
	if !slices.Equal(changes, wantChanges) || !slices.Equal(texts, wantTexts) {
		t.Errorf("R3: changes or paths that were handed in were changed: %+v, %q", changes, texts)
	}
}

func TestWhatIsHandedOutIsNew(t *testing.T) {
	base := files("b", "c", "d")
	for what, made := range map[string]func(l []api.File) ([]api.File, api.Errno){
		"Put in a place": func(l []api.File) ([]api.File, api.Errno) { return tree.Put(l, file("c", "n")) },
		"Put alike":      func(l []api.File) ([]api.File, api.Errno) { return tree.Put(l, l[0]) },
		"Put first":      func(l []api.File) ([]api.File, api.Errno) { return tree.Put(l, file("a", "n")) },
		"Put last":       func(l []api.File) ([]api.File, api.Errno) { return tree.Put(l, file("e", "n")) },
		"Drop first":     func(l []api.File) ([]api.File, api.Errno) { return tree.Drop(l, "b") },
		"Drop last":      func(l []api.File) ([]api.File, api.Errno) { return tree.Drop(l, "d") },
		"Apply nothing":  func(l []api.File) ([]api.File, api.Errno) { return tree.Apply(l, nil) },
		"Apply": func(l []api.File) ([]api.File, api.Errno) {
			return tree.Apply(l, []api.Change{{Path: "e"}, {Path: "e", Delete: true}})
		},
	} {
		l, all := roomy(base, file("room", ""))
		kept := slices.Clone(all)
		one, e := made(l)
		other, _ := made(l)
		want := slices.Clone(one)
		if e != api.OK {
			t.Errorf("%s: error %d", what, e)
		}
		clear(one[:cap(one)])
		if !slices.Equal(all, kept) || !slices.Equal(other, want) {
			t.Errorf("R3: who writes into the answer of %s changes what was handed in, or another answer: %+v, %+v", what, all, other)
		}
		clear(all)
		if !slices.Equal(other, want) {
			t.Errorf("R3: %s keeps what was handed in: %+v", what, other)
		}
	}
}

func TestAnAnswerHangsOnNoCallAheadOfIt(t *testing.T) {
	var first string
	for i := range 20 {
		l, b := files("b", "c/d", "e"), files("c-", "c/d", "f")
		var told []any
		put, e := tree.Put(l, file("c/e", ""))
		told = append(told, put, e)
		put, e = tree.Put(l, file("c", ""))
		told = append(told, put, e)
		drop, e := tree.Drop(l, "b")
		told = append(told, drop, e)
		made, e := tree.Apply(l, tree.Changes(l, b))
		told = append(told, made, e, tree.Right(l), tree.Same(l, b), tree.Changes(l, b), tree.Changes(b, l), tree.Only(tree.Changes(l, b), []string{"f", "b"}))
		if now := fmt.Sprint(told...); i == 0 {
			first = now
		} else if now != first {
			t.Errorf("R2: what is answered hangs on what was asked ahead of it: %s; first: %s", now, first)
		}
	}
}
