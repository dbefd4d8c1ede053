package tree_test

import (
	"fmt"
	"slices"
	"strings"
	"testing"

	"rick/api"
	"rick/tree"
)

// put is a change that brings a file.
func put(f api.File) api.Change { return api.Change{Path: f.Path, Exec: f.Exec, Text: f.Text} }

// gone is a change that takes the file of that path away.
func gone(p string) api.Change { return api.Change{Path: p, Delete: true} }

func TestApply(t *testing.T) {
	l := []api.File{file("a", "1"), tool("b/c", "2"), file("d", "3")}
	for _, c := range []struct {
		what string
		c    []api.Change
		want []api.File
	}{
		{"nothing", nil, l},
		{"an empty list", []api.Change{}, l},
		{"a new file", []api.Change{put(tool("c", "n"))}, []api.File{l[0], l[1], tool("c", "n"), l[2]}},
		{"a file of nothing", []api.Change{put(file("c", ""))}, []api.File{l[0], l[1], file("c", ""), l[2]}},
		{"another text", []api.Change{put(file("a", "n"))}, []api.File{file("a", "n"), l[1], l[2]}},
		{"another exec", []api.Change{put(file("b/c", "2"))}, []api.File{l[0], file("b/c", "2"), l[2]}},
		{"one gone", []api.Change{gone("b/c")}, []api.File{l[0], l[2]}},
		{"one gone, with a text that plays no part", []api.Change{{Path: "b/c", Delete: true, Exec: true, Text: long(20_001)}}, []api.File{l[0], l[2]}},
		{"all gone", []api.Change{gone("d"), gone("a"), gone("b/c")}, nil},
		{"one gone, and back", []api.Change{gone("a"), put(tool("a", "n"))}, []api.File{tool("a", "n"), l[1], l[2]}},
		{"one there, and gone", []api.Change{put(file("z", "")), gone("z")}, l},
		{"one twice", []api.Change{put(file("a", "n")), put(file("a", "m"))}, []api.File{file("a", "m"), l[1], l[2]}},
		{"a folder where a file was", []api.Change{gone("a"), put(file("a/b", "n")), put(file("a/a", "m"))}, []api.File{file("a/a", "m"), file("a/b", "n"), l[1], l[2]}},
		{"a file where a folder was", []api.Change{gone("b/c"), put(file("b", "n"))}, []api.File{l[0], file("b", "n"), l[2]}},
		{"a text as long as may be", []api.Change{put(file("a", long(20_000)))}, []api.File{file("a", long(20_000)), l[1], l[2]}},
	} {
		if got, e := tree.Apply(l, c.c); e != api.OK || !slices.Equal(got, c.want) || !tree.Right(got) {
			t.Errorf("P12.2: Apply of %s: %.200q, error %d; want %.200q", c.what, fmt.Sprint(got), e, fmt.Sprint(c.want))
		}
	}
	if got, e := tree.Apply(nil, []api.Change{put(file("b", "2")), put(tool("a", "1"))}); e != api.OK || !slices.Equal(got, []api.File{tool("a", "1"), file("b", "2")}) {
		t.Errorf("P12.2: Apply to nothing: %+v, error %d", got, e)
	}
}

func TestApplyOfWhatMayNotBe(t *testing.T) {
	l := files("a", "b/c", "d")
	for _, c := range []struct {
		what string
		l    []api.File
		c    []api.Change
		want api.Errno
	}{
		{"what is not there", l, []api.Change{gone("q")}, api.ErrNone},
		{"a folder", l, []api.Change{gone("b")}, api.ErrNone},
		{"no path, gone", l, []api.Change{gone("")}, api.ErrNone},
		{"a wrong path, gone", l, []api.Change{gone("a//b")}, api.ErrNone},
		{"gone twice", l, []api.Change{gone("a"), gone("a")}, api.ErrNone},
		{"gone ahead of being there", l, []api.Change{gone("q"), put(file("q", ""))}, api.ErrNone},
		{"nothing at all", l, []api.Change{{}}, api.ErrPath},
		{"a wrong path", l, []api.Change{put(file("q/", ""))}, api.ErrPath},
		{"a folder where a file is", l, []api.Change{put(file("a/b", "")), gone("a")}, api.ErrPath},
		{"a file where a folder is", l, []api.Change{put(file("b", "")), gone("b/c")}, api.ErrPath},
		{"two that clash", nil, []api.Change{put(file("x", "")), put(file("x/y", ""))}, api.ErrPath},
		{"two that clash, the other way round", nil, []api.Change{put(file("x/y", "")), put(file("x", ""))}, api.ErrPath},
		{"a long text", l, []api.Change{put(file("q", long(20_001)))}, api.ErrLimit},
		{"a long text, and gone", l, []api.Change{put(file("q", long(20_001))), gone("q")}, api.ErrLimit},
		{"the first error, of paths", l, []api.Change{put(file("z", "")), put(file("", "")), gone("q")}, api.ErrPath},
		{"the first error, of none", l, []api.Change{put(file("z", "")), gone("q"), put(file("", ""))}, api.ErrNone},
		{"the first error, of limits", l, []api.Change{put(file("z", long(20_001))), gone("q"), put(file("", ""))}, api.ErrLimit},
		{"the last one of many", l, append(slices.Repeat([]api.Change{put(file("z", ""))}, 99), gone("q")), api.ErrNone},
		{"a file too many", many(100), []api.Change{put(file("z", "")), gone("f00000")}, api.ErrLimit},
		{"no tree", files("b", "a"), nil, api.ErrForm},
		{"no tree, though it would be one", files("a", "b", "b/c"), []api.Change{gone("b")}, api.ErrForm},
		{"a tree too large", many(101), []api.Change{gone("f00000")}, api.ErrForm},
		{"a text too long", []api.File{file("a", long(20_001))}, []api.Change{gone("a")}, api.ErrForm},
	} {
		if got, e := tree.Apply(c.l, c.c); e != c.want || len(got) != 0 {
			t.Errorf("P12.2: Apply of %s: %q, error %d; want %d", c.what, names(got), e, c.want)
		}
	}
	if got, e := tree.Apply(many(100), []api.Change{gone("f00000"), put(file("z", ""))}); e != api.OK || len(got) != 100 || !tree.Right(got) {
		t.Errorf("P12.2: Apply to a full tree: %d files, error %d", len(got), e)
	}
}

func TestApplyCountsChanges(t *testing.T) {
	noTree := files("b", "a")
	for _, n := range []int{0, 1, 99, 100, 101, 102, 200, 256, 300, 356, 65_636} {
		want := api.OK
		if n > 100 {
			want = api.ErrLimit
		}
		for what, c := range map[string][]api.Change{
			"of one file":       slices.Repeat([]api.Change{put(file("a", "n"))}, n),
			"there, and gone":   append(slices.Repeat([]api.Change{put(file("q", "")), gone("q")}, n/2), slices.Repeat([]api.Change{put(file("a", ""))}, n%2)...),
			"of files of a set": slices.Concat(slices.Repeat(tree.Changes(nil, many(10)), n/10), tree.Changes(nil, many(n%10))),
		} {
			if len(c) != n {
				t.Fatalf("%d changes; want %d", len(c), n)
			}
			got, e := tree.Apply(files("a"), c)
			if e != want || (e == api.OK) != (len(got) > 0) {
				t.Errorf("P12.2: Apply of %d changes %s: %d files, error %d; want %d", n, what, len(got), e, want)
			}
			if got, e := tree.Apply(noTree, c); e != api.ErrForm || len(got) != 0 {
				t.Errorf("R5: Apply of %d changes to no tree: error %d; want %d", n, e, api.ErrForm)
			}
		}
		bad := slices.Repeat([]api.Change{gone("q")}, n)
		if n > 0 {
			want = api.ErrNone
		}
		if n > 100 {
			want = api.ErrLimit
		}
		if got, e := tree.Apply(files("a"), bad); e != want || (e == api.OK) != (len(got) == 1) {
			t.Errorf("R5: Apply of %d changes that may not be: error %d; want %d", n, e, want)
		}
	}
}

// dice tells numbers that seem to come by chance, but are always the same.
type dice uint64

// roll answers a number from 0 to n - 1.
func (d *dice) roll(n int) int {
	*d = *d*6364136223846793005 + 1442695040888963407
	return int(uint64(*d) >> 33 % uint64(n))
}

// someChange answers a change of a few paths, of which some may not be.
func (d *dice) someChange() api.Change {
	paths := append(fewPaths(), "", "a//b")
	c := api.Change{Path: paths[d.roll(len(paths))], Delete: d.roll(3) == 0, Exec: d.roll(2) == 0, Text: []string{"", "1", "2"}[d.roll(3)]}
	if d.roll(40) == 0 {
		c.Text = long(20_001)
	}
	return c
}

func TestApplyIsPutAndDropOneByOne(t *testing.T) {
	d := dice(12)
	good, bad := 0, 0
	for range 30_000 {
		var l []api.File
		for range d.roll(6) {
			if more, e := tree.Put(l, tool(fewPaths()[d.roll(len(fewPaths()))], "0")); e == api.OK {
				l = more
			}
		}
		var c []api.Change
		want, wantErr := l, api.OK
		for range d.roll(5) {
			one := d.someChange()
			c = append(c, one)
			if wantErr == api.OK && one.Delete {
				want, wantErr = tree.Drop(want, one.Path)
			} else if wantErr == api.OK {
				want, wantErr = tree.Put(want, api.File{Path: one.Path, Exec: one.Exec, Text: one.Text})
			}
		}
		got, e := tree.Apply(l, c)
		if e != wantErr || !slices.Equal(got, want) {
			t.Fatalf("P12.2: Apply of %.300q to %q: %q, error %d; want %q, %d", fmt.Sprint(c), names(l), names(got), e, names(want), wantErr)
		}
		if e == api.OK {
			good++
		} else {
			bad++
		}
	}
	if good < 5_000 || bad < 5_000 {
		t.Errorf("%d were OK, and %d were not", good, bad)
	}
}

func TestChanges(t *testing.T) {
	a := []api.File{file("a", "1"), file("b", "2"), tool("c", "3"), file("e", "5"), tool("g", "")}
	b := []api.File{file("a", "1"), tool("b", "2"), tool("c", "33"), tool("d", "4"), tool("g", "")}
	for _, c := range []struct {
		what string
		a, b []api.File
		want []api.Change
	}{
		{"nothing", nil, nil, nil},
		{"nil and an empty list", nil, []api.File{}, nil},
		{"all alike", a, slices.Clone(a), nil},
		{"from a to b", a, b, []api.Change{put(b[1]), put(b[2]), put(b[3]), gone("e")}},
		{"from b to a", b, a, []api.Change{put(a[1]), put(a[2]), gone("d"), put(a[3])}},
		{"all new", nil, a, []api.Change{put(a[0]), put(a[1]), put(a[2]), put(a[3]), put(a[4])}},
		{"all gone", a, nil, []api.Change{gone("a"), gone("b"), gone("c"), gone("e"), gone("g")}},
		{"a folder where a file was", files("a"), files("a/b", "a/c"), []api.Change{gone("a"), put(files("a/b")[0]), put(files("a/c")[0])}},
		{"a file where a folder was", files("a/b", "a/c"), files("a"), []api.Change{put(files("a")[0]), gone("a/b"), gone("a/c")}},
		{"by rising bytes", files("a/b", "z"), files("B", "a-b", "a0"), []api.Change{put(files("B")[0]), put(files("a-b")[0]), gone("a/b"), put(files("a0")[0]), gone("z")}},
		{"a file that is renamed", []api.File{file("a", "1")}, []api.File{file("b", "1")}, []api.Change{gone("a"), put(file("b", "1"))}},
		{"a file of nothing", nil, []api.File{file("a", "")}, []api.Change{{Path: "a"}}},
		{"a file of nothing, gone", []api.File{file("a", "")}, nil, []api.Change{gone("a")}},
		{"only the exec", []api.File{tool("a", "1")}, []api.File{file("a", "1")}, []api.Change{put(file("a", "1"))}},
	} {
		if got := tree.Changes(c.a, c.b); !slices.Equal(got, c.want) {
			t.Errorf("P12.2: Changes of %s: %+v; want %+v", c.what, got, c.want)
		}
	}
}

func TestChangesOfWhatIsNoTree(t *testing.T) {
	one, two := file("a", "1"), tool("a", "2")
	for _, c := range []struct {
		what string
		a, b []api.File
		want []api.Change
	}{
		{"of several in a the first one counts", []api.File{one, two}, []api.File{one}, nil},
		{"of several in a not the last one", []api.File{one, two}, []api.File{two}, []api.Change{put(two)}},
		{"of several in b the first one counts", []api.File{one}, []api.File{one, two}, nil},
		{"of several in b not the last one", []api.File{one}, []api.File{two, one}, []api.Change{put(two)}},
		{"each path is told once", nil, []api.File{two, one, two}, []api.Change{put(two)}},
		{"each path is told once, gone, too", []api.File{one, two, one}, nil, []api.Change{gone("a")}},
		{"in no order", files("c", "a", "b"), files("d", "b", "a"), []api.Change{gone("c"), put(files("d")[0])}},
		{"paths that may not be", files("", "a//b"), []api.File{file("", "1"), file("/", ""), file("\xff", "2")}, []api.Change{put(file("", "1")), put(file("/", "")), gone("a//b"), put(file("\xff", "2"))}},
		{"paths that are nearly one", files("/a", "a"), files("a/", "a"), []api.Change{gone("/a"), put(files("a/")[0])}},
		{"a long text", nil, []api.File{file("a", long(20_001))}, []api.Change{put(file("a", long(20_001)))}},
	} {
		if got := tree.Changes(c.a, c.b); !slices.Equal(got, c.want) {
			t.Errorf("P12.2: Changes of what is no tree: %s: %.300q; want %.300q", c.what, fmt.Sprint(got), fmt.Sprint(c.want))
		}
	}
}

func TestChangesHaveNoLimit(t *testing.T) {
	a := many(100)
	var b []api.File
	for _, f := range a {
		b = append(b, file("g"+f.Path, f.Text))
	}
	if got := tree.Changes(a, b); len(got) != 200 || got[99] != gone("f00099") || got[100] != put(b[0]) {
		t.Errorf("P12.2: Changes from a full tree to another one: %d; want 200", len(got))
	}
	big := many(70_000)
	got := tree.Changes(big[:69_999], big[1:])
	if !slices.Equal(got, []api.Change{gone("f00000"), put(big[69_999])}) {
		t.Errorf("P12.2: Changes of lists of many files: %d; want 2", len(got))
	}
}

// deletionsFirst answers c with its deletions ahead of the others, each in order.
func deletionsFirst(c []api.Change) []api.Change {
	out := slices.Clone(c)
	slices.SortStableFunc(out, func(x, y api.Change) int {
		switch {
		case x.Delete == y.Delete:
			return 0
		case x.Delete:
			return -1
		}
		return 1
	})
	return out
}

// turned answers l with some of its files turned, by that number.
func turned(l []api.File, by int) []api.File {
	out := slices.Clone(l)
	for i := range out {
		switch (by + i) % 3 {
		case 1:
			out[i].Exec = !out[i].Exec
		case 2:
			out[i].Text += "!"
		}
	}
	return out
}

func TestWhatLeadsFromOneTreeToAnotherOneLeadsThere(t *testing.T) {
	all := subtrees(fewPaths())
	for i, a := range all {
		for j, to := range all {
			b := turned(to, i+j)
			c := tree.Changes(a, b)
			if got, e := tree.Apply(a, deletionsFirst(c)); e != api.OK || !slices.Equal(got, b) || !tree.Same(got, b) {
				t.Errorf("What follows: from %q to %q: %q, error %d", names(a), names(b), names(got), e)
			}
			if got, want := len(c) == 0, slices.Equal(a, b); got != want {
				t.Errorf("P12.2: Changes from %q to %q: none: %v; want %v", names(a), names(b), got, want)
			}
			for k, one := range c {
				was, had := tree.Find(a, one.Path)
				is, has := tree.Find(b, one.Path)
				if k > 0 && strings.Compare(c[k-1].Path, one.Path) >= 0 || had == has && was == is {
					t.Errorf("P12.2: Changes from %q to %q: %+v at %d: they do not rise, or it is no change", names(a), names(b), one, k)
				}
				if want := (api.Change{Path: one.Path, Delete: !has, Exec: is.Exec, Text: is.Text}); one != want {
					t.Errorf("P12.2: Changes from %q to %q: %+v; want %+v", names(a), names(b), one, want)
				}
			}
		}
	}
}

func TestWhatLeadsFromAFullTreeToAnotherOne(t *testing.T) {
	a := many(100)
	b := append(slices.Clone(a[:50]), files("g", "h/a", "h/b")...)
	c := deletionsFirst(tree.Changes(a, b))
	if got, e := tree.Apply(a, c); len(c) != 53 || e != api.OK || !slices.Equal(got, b) {
		t.Errorf("What follows: %d changes: %d files, error %d", len(c), len(got), e)
	}
	other := many(101)[1:]
	c = deletionsFirst(tree.Changes(a, other))
	if got, e := tree.Apply(a, c); len(c) != 2 || e != api.OK || !slices.Equal(got, other) {
		t.Errorf("What follows: %d changes of full trees: %d files, error %d", len(c), len(got), e)
	}
}

func TestOnly(t *testing.T) {
	c := []api.Change{
		put(tool("d", "1")),
		{Path: "b", Delete: true, Exec: true, Text: "told as it is"},
		put(file("a", "2")),
		put(file("d", "3")),
		gone(""),
		put(file("a//b", long(20_001))),
		gone("d"),
	}
	for _, r := range []struct {
		paths []string
		want  []api.Change
	}{
		{nil, nil},
		{[]string{}, nil},
		{[]string{"q"}, nil},
		{[]string{"D", "d/", "/d", "a//", "dd", " d"}, nil},
		{[]string{"a"}, []api.Change{c[2]}},
		{[]string{"d"}, []api.Change{c[0], c[3], c[6]}},
		{[]string{""}, []api.Change{c[4]}},
		{[]string{"a//b"}, []api.Change{c[5]}},
		{[]string{"a", "b"}, []api.Change{c[1], c[2]}},
		{[]string{"b", "a"}, []api.Change{c[1], c[2]}},
		{[]string{"a", "q", "a", "d", "a"}, []api.Change{c[0], c[2], c[3], c[6]}},
		{[]string{"", "a", "a//b", "b", "d"}, c},
	} {
		if got := tree.Only(c, r.paths); !slices.Equal(got, r.want) {
			t.Errorf("P12.2: Only of %q: %.300q; want %.300q", r.paths, fmt.Sprint(got), fmt.Sprint(r.want))
		}
		if got := tree.Only(nil, r.paths); len(got) != 0 {
			t.Errorf("P12.2: Only of nothing, and %q: %+v", r.paths, got)
		}
	}
}

func TestOnlyHasNoLimit(t *testing.T) {
	c := tree.Changes(nil, many(70_000))
	paths := names(many(70_000))
	if got := tree.Only(c, paths); !slices.Equal(got, c) {
		t.Errorf("P12.2: Only of many changes and paths: %d; want %d", len(got), len(c))
	}
	slices.Reverse(paths)
	if got := tree.Only(c, paths[:10]); !slices.Equal(got, c[69_990:]) {
		t.Errorf("P12.2: Only of many changes and few paths: %d; want 10", len(got))
	}
}

func TestChangesThatAreHandedOutAreNew(t *testing.T) {
	a, b := files("a", "b"), files("b", "c")
	c := tree.Changes(a, b)
	kept := slices.Clone(c)
	for what, made := range map[string]func() []api.Change{
		"Changes": func() []api.Change { return tree.Changes(a, b) },
		"Only":    func() []api.Change { return tree.Only(c, []string{"a", "c"}) },
	} {
		one, other := made(), made()
		want := slices.Clone(other)
		if len(want) != 2 {
			t.Errorf("%s: %+v", what, want)
		}
		clear(one[:cap(one)])
		if !slices.Equal(other, want) || !slices.Equal(c, kept) || !slices.Equal(made(), want) {
			t.Errorf("R3: who writes into the answer of %s changes what was handed in, or another answer: %+v, %+v", what, c, other)
		}
	}
}
