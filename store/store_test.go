package store_test

import (
	"bytes"
	"crypto/sha256"
	"encoding/binary"
	"fmt"
	"math"
	"slices"
	"strings"
	"sync"
	"testing"

	"rick/api"
	"rick/store"
)

// none is the key that stands beside an error.
var none api.Key

// sum is the key of b, by another way than the program's.
func sum(b []byte) api.Key { return sha256.Sum256(b) }

// long is a text of n bytes.
func long(n int) string { return strings.Repeat("x", n) }

// blob are the bytes of a text.
func blob(text string) []byte { return append([]byte{1}, text...) }

// word is a text as octets tell it: how many bytes it has and one, and they.
func word(s string) []byte {
	return append(binary.LittleEndian.AppendUint32(nil, uint32(len(s)+1)), s...)
}

// truth is the byte of b.
func truth(b bool) []byte {
	if b {
		return []byte{1}
	}
	return []byte{0}
}

// treeOf are the bytes of these entries, whether they are a tree or not.
func treeOf(l ...api.Entry) []byte {
	b := binary.LittleEndian.AppendUint32([]byte{2}, uint32(len(l)))
	for _, e := range l {
		b = slices.Concat(b, word(e.Path), truth(e.Exec), e.Blob[:])
	}
	return b
}

// treeOfFiles are the bytes of the tree of these files.
func treeOfFiles(l []api.File) []byte {
	var entries []api.Entry
	for _, f := range l {
		entries = append(entries, api.Entry{Path: f.Path, Exec: f.Exec, Blob: sum(blob(f.Text))})
	}
	return treeOf(entries...)
}

// commitOf are the bytes of c, whether it may be or not.
func commitOf(c api.Commit) []byte {
	b := slices.Concat([]byte{3}, truth(c.Rooted), c.Parent[:], c.Tree[:], word(c.Message))
	return binary.LittleEndian.AppendUint64(b, c.Serial)
}

// file is one of that path and text.
func file(path, text string) api.File { return api.File{Path: path, Text: text} }

// program is one that may be run.
func program(path, text string) api.File { return api.File{Path: path, Exec: true, Text: text} }

// has fails unless s has just these objects, in that order, found by At and by Get.
func has(t *testing.T, what string, s *store.Store, all ...[]byte) {
	t.Helper()
	if s.Len() != len(all) {
		t.Errorf("P16.1: %s: Len %d; want %d", what, s.Len(), len(all))
	}
	for i, want := range all {
		at, is := s.At(i)
		got, there := s.Get(sum(want))
		if !is || !there || !bytes.Equal(at, want) || !bytes.Equal(got, want) {
			t.Errorf("P16.1: %s: At(%d) % x, %v; Get % x, %v; want % x", what, i, at, is, got, there, want)
		}
	}
	for _, i := range []int{-1, math.MinInt, len(all), len(all) + 1, math.MaxInt} {
		if b, is := s.At(i); is || len(b) > 0 {
			t.Errorf("P16.1: %s: At(%d): % x, %v; want nothing", what, i, b, is)
		}
	}
}

// puts fails unless Put of b answers so, and b's key beside OK alone.
func puts(t *testing.T, what string, s *store.Store, b []byte, want api.Errno) {
	t.Helper()
	isKey(t, "P16.1: Put of "+what, b, want)(s.Put(b))
}

// isKey answers what fails unless it gets that error, and b's key if that is OK.
func isKey(t *testing.T, what string, b []byte, want api.Errno) func(k api.Key, e api.Errno) {
	t.Helper()
	return func(k api.Key, e api.Errno) {
		t.Helper()
		key := none
		if want == api.OK {
			key = sum(b)
		}
		if e != want || k != key {
			t.Errorf("%s: key %x, error %d; want key %x, error %d", what, k, e, key, want)
		}
	}
}

// filesAre fails unless Files of k answers so.
func filesAre(t *testing.T, what string, s *store.Store, k api.Key, l []api.File, want api.Errno) {
	t.Helper()
	got, e := s.Files(k)
	if e != want || !slices.Equal(got, l) {
		t.Errorf("P16.2: Files of %s: %+v, error %d; want %+v, error %d", what, got, e, l, want)
	}
}

// commitIs fails unless Commit of k answers so.
func commitIs(t *testing.T, what string, s *store.Store, k api.Key, c api.Commit, want api.Errno) {
	t.Helper()
	got, e := s.Commit(k)
	if e != want || got != c {
		t.Errorf("P16.2: Commit of %s: %+v, error %d; want %+v, error %d", what, got, e, c, want)
	}
}

func TestTheDocumentsExample(t *testing.T) {
	s := store.New()
	puts(t, "one blob", s, blob("ab"), api.OK)
	puts(t, "it once more", s, blob("ab"), api.OK)
	has(t, "one blob, twice", s, blob("ab"))
}

func TestNothingYet(t *testing.T) {
	for what, s := range map[string]*store.Store{"New": store.New(), "a zero value": {}, "the fork of a new one": store.New().Fork(), "the fork of a zero value": (&store.Store{}).Fork()} {
		has(t, what, s)
		if b, is := s.Get(sum(blob(""))); is || len(b) > 0 {
			t.Errorf("P16.1: %s: Get: % x, %v", what, b, is)
		}
		filesAre(t, what, s, none, nil, api.ErrNone)
		commitIs(t, what, s, none, api.Commit{}, api.ErrNone)
		isKey(t, "P16.2: PutCommit: "+what, nil, api.ErrNone)(s.PutCommit(api.Commit{Rooted: true}))
		has(t, what, s)
		puts(t, what, s, blob(""), api.OK)
		isKey(t, "P16.2: PutTree: "+what, treeOf(), api.OK)(s.PutTree(nil))
		isKey(t, "P16.2: PutTree: "+what, treeOf(), api.OK)(s.PutTree([]api.File{}))
		has(t, what, s, blob(""), treeOf())
	}
	if a, b := store.New(), store.New(); a == b {
		t.Error("P16.1: New answers the same one twice")
	} else if a.Put(blob("a")); b.Len() != 0 {
		t.Error("R2: what is put into one is in another one")
	}
}

func TestNil(t *testing.T) {
	var s *store.Store
	for _, b := range [][]byte{nil, {}, {9}, blob("a"), blob(long(20_001)), treeOf(), {2}} {
		puts(t, "a nil store", s, b, api.ErrNil)
	}
	b, is := s.Get(sum(blob("a")))
	at, isAt := s.At(0)
	if is || isAt || len(b) > 0 || len(at) > 0 || s.Len() != 0 || s.Fork() != nil {
		t.Errorf("P16.1: nil: Get % x, %v; At % x, %v; Len %d; Fork %v", b, is, at, isAt, s.Len(), s.Fork())
	}
	for _, l := range [][]api.File{nil, {file("a", "1")}, {file("..", "1")}} {
		isKey(t, "P16.2: PutTree of a nil store", nil, api.ErrNil)(s.PutTree(l))
	}
	for _, c := range []api.Commit{{}, {Rooted: true}, {Rooted: true, Parent: sum(nil)}, {Message: long(1_001)}} {
		isKey(t, "P16.2: PutCommit of a nil store", nil, api.ErrNil)(s.PutCommit(c))
	}
	filesAre(t, "a nil store", s, sum(treeOf()), nil, api.ErrNil)
	commitIs(t, "a nil store", s, none, api.Commit{}, api.ErrNil)
}

func TestPut(t *testing.T) {
	tree := treeOf(api.Entry{Path: "a", Blob: sum(blob("not there"))}, api.Entry{Path: "b/c", Exec: true})
	first := commitOf(api.Commit{Rooted: true, Tree: sum(tree), Message: "m", Serial: 1<<64 - 1})
	second := commitOf(api.Commit{Parent: sum(nil), Message: long(1_000)})
	all := [][]byte{blob("b"), blob(""), tree, blob("a"), second, treeOf(), first, blob(long(20_000)), blob(string(tree))}
	s := store.New()
	for n, b := range all {
		puts(t, fmt.Sprint("the row ", n), s, b, api.OK)
		has(t, "so far", s, all[:n+1]...)
	}
	for _, i := range []int{3, 0, 8, 2, 2, 7, 6} {
		puts(t, fmt.Sprint("the row once more: ", i), s, all[i], api.OK)
		has(t, "as it was", s, all...)
	}
	for _, k := range []api.Key{none, {1}, sum(nil), sum([]byte("b")), sum(blob("c"))} {
		if b, is := s.Get(k); is || len(b) > 0 {
			t.Errorf("P16.1: Get of what is not there: % x", b)
		}
	}
}

func TestPutOfWhatIsNoObject(t *testing.T) {
	tree := treeOf(api.Entry{Path: "a"}, api.Entry{Path: "b"})
	commit := commitOf(api.Commit{Rooted: true, Message: "m"})
	var many []api.Entry
	for i := range 101 {
		many = append(many, api.Entry{Path: fmt.Sprintf("f%03d", i)})
	}
	s := store.New()
	puts(t, "as many files as may be", s, treeOf(many[:100]...), api.OK)
	for i, r := range []struct {
		b    []byte
		want api.Errno
	}{
		{nil, api.ErrForm},
		{[]byte{}, api.ErrForm},
		{[]byte{0}, api.ErrForm},
		{[]byte{4, 'a'}, api.ErrForm},
		{[]byte{255}, api.ErrForm},
		{[]byte(long(20_010)), api.ErrForm},
		{blob(long(20_001)), api.ErrLimit},
		{blob(long(300_000)), api.ErrLimit},
		{[]byte{2}, api.ErrShort},
		{tree[:len(tree)-1], api.ErrShort},
		{append(slices.Clone(tree), 0), api.ErrForm},
		{treeOf(api.Entry{Path: "b"}, api.Entry{Path: "a"}), api.ErrForm},
		{treeOf(api.Entry{Path: "a"}, api.Entry{Path: "a/b"}), api.ErrForm},
		{treeOf(api.Entry{Path: "a//b"}), api.ErrForm},
		{treeOf(many...), api.ErrForm},
		{[]byte{3}, api.ErrShort},
		{[]byte{3, 2}, api.ErrForm},
		{commit[:len(commit)-1], api.ErrShort},
		{append(slices.Clone(commit), 0), api.ErrForm},
		{commitOf(api.Commit{Rooted: true, Parent: api.Key{1}}), api.ErrForm},
		{commitOf(api.Commit{Message: long(1_001)}), api.ErrForm},
	} {
		puts(t, fmt.Sprint("the wrong row ", i), s, r.b, r.want)
		has(t, fmt.Sprint("as ahead of the wrong row ", i), s, treeOf(many[:100]...))
		if b, is := s.Get(sum(r.b)); is || len(b) > 0 {
			t.Errorf("P16.1: the wrong row %d is there", i)
		}
	}
}

func TestFork(t *testing.T) {
	s := store.New()
	s.Put(blob("a"))
	tree, _ := s.PutTree([]api.File{file("f", "1")})
	elder := [][]byte{blob("a"), blob("1"), treeOfFiles([]api.File{file("f", "1")})}
	first, second := s.Fork(), s.Fork()
	if first == s || first == second {
		t.Error("P16.1: Fork answers no other store")
	}
	puts(t, "a fork", first, blob("b"), api.OK)
	puts(t, "another fork", second, blob("c"), api.OK)
	puts(t, "what was forked", s, blob("d"), api.OK)
	puts(t, "what was forked, of what a fork has", s, blob("b"), api.OK)
	third := first.Fork()
	puts(t, "the fork of a fork", third, blob("d"), api.OK)
	puts(t, "a fork, of what is there", second, blob("a"), api.OK)
	has(t, "what was forked", s, slices.Concat(elder, [][]byte{blob("d"), blob("b")})...)
	has(t, "a fork", first, slices.Concat(elder, [][]byte{blob("b")})...)
	has(t, "another fork", second, slices.Concat(elder, [][]byte{blob("c")})...)
	has(t, "the fork of a fork", third, slices.Concat(elder, [][]byte{blob("b"), blob("d")})...)
	for _, one := range []*store.Store{s, first, second, third} {
		filesAre(t, "what was there ahead of the fork", one, tree, []api.File{file("f", "1")}, api.OK)
	}
	if b, is := first.Get(sum(blob("c"))); is || len(b) > 0 {
		t.Error("P16.1: what is put into one fork is in another one")
	}
	isKey(t, "P16.2: PutCommit in a fork", commitOf(api.Commit{Rooted: true, Tree: tree}), api.OK)(first.PutCommit(api.Commit{Rooted: true, Tree: tree}))
	isKey(t, "P16.2: PutCommit on what a fork has", nil, api.ErrNone)(s.PutCommit(api.Commit{Parent: sum(commitOf(api.Commit{Rooted: true, Tree: tree})), Tree: tree}))
}

func TestPutTree(t *testing.T) {
	s := store.New()
	s.Put(blob("2"))
	l := []api.File{file("a", "1"), file("a-b", ""), program("b/c", "2"), file("b/d", "1"), file("e", "3")}
	isKey(t, "P16.2: PutTree", treeOfFiles(l), api.OK)(s.PutTree(l))
	all := [][]byte{blob("2"), blob("1"), blob(""), blob("3"), treeOfFiles(l)}
	has(t, "a tree", s, all...)
	filesAre(t, "a tree", s, sum(treeOfFiles(l)), l, api.OK)
	isKey(t, "P16.2: PutTree once more", treeOfFiles(l), api.OK)(s.PutTree(l))
	has(t, "a tree once more", s, all...)

	other := slices.Clone(l)
	other[0].Exec = true
	isKey(t, "P16.2: PutTree of one that may be run", treeOfFiles(other), api.OK)(s.PutTree(other))
	all = append(all, treeOfFiles(other))
	isKey(t, "P16.2: PutTree of nothing", treeOf(), api.OK)(s.PutTree(nil))
	all = append(all, treeOf())
	has(t, "three trees", s, all...)
	filesAre(t, "the first tree", s, sum(treeOfFiles(l)), l, api.OK)
	filesAre(t, "the second tree", s, sum(treeOfFiles(other)), other, api.OK)
	filesAre(t, "nothing", s, sum(treeOf()), nil, api.OK)
}

func TestPutTreeOfWhatIsNoTree(t *testing.T) {
	var many []api.File
	for i := range 101 {
		many = append(many, file(fmt.Sprintf("f%03d", i), fmt.Sprint(i%7)))
	}
	s := store.New()
	s.Put(blob("there"))
	for i, l := range [][]api.File{
		{file("b", "1"), file("a", "2")},
		{file("a", "1"), file("a", "1")},
		{file("a", "1"), file("a-b", "2"), file("a/b", "3")},
		{file("", "1")},
		{file("a", "1"), file("b/../c", "2")},
		{file("a", "1"), file(long(101), "2")},
		{file("a", "1"), file("b", long(20_001))},
		many,
	} {
		isKey(t, fmt.Sprint("P16.2: PutTree of the wrong row ", i), nil, api.ErrForm)(s.PutTree(l))
		has(t, fmt.Sprint("as ahead of the wrong row ", i), s, blob("there"))
	}
	most := many[:100]
	most[99].Text = long(20_000)
	isKey(t, "P16.2: PutTree of as much as may be", treeOfFiles(most), api.OK)(s.PutTree(most))
	filesAre(t, "as much as may be", s, sum(treeOfFiles(most)), most, api.OK)
	if s.Len() != 1+7+1+1 {
		t.Errorf("P16.2: PutTree of 100 files of 8 texts: %d objects; want 10", s.Len())
	}
}

func TestFiles(t *testing.T) {
	s := store.New()
	text := sum(blob("1"))
	commit := sum(commitOf(api.Commit{Rooted: true}))
	lost := api.Entry{Path: "a", Blob: sum(blob("2"))}
	for _, b := range [][]byte{blob("1"), commitOf(api.Commit{Rooted: true})} {
		puts(t, "what trees name", s, b, api.OK)
	}
	for _, r := range []struct {
		what string
		l    []api.Entry
		want api.Errno
	}{
		{"a blob that is not there", []api.Entry{lost}, api.ErrNone},
		{"a blob of no key", []api.Entry{{Path: "a"}}, api.ErrNone},
		{"a blob that is not there behind one that is", []api.Entry{{Path: "A", Blob: text}, lost}, api.ErrNone},
		{"a blob that is not there ahead of one that is", []api.Entry{lost, {Path: "b", Blob: text}}, api.ErrNone},
		{"a commit for a blob", []api.Entry{{Path: "a", Blob: commit}}, api.ErrForm},
		{"a commit for a blob behind one that is there", []api.Entry{{Path: "a", Blob: text}, {Path: "b", Blob: commit}}, api.ErrForm},
		{"a tree for a blob", []api.Entry{{Path: "a", Blob: sum(treeOf(lost))}}, api.ErrForm},
		{"a blob that is not there ahead of a commit for one", []api.Entry{lost, {Path: "b", Blob: commit}}, api.ErrNone},
		{"a blob that is not there behind a commit for one", []api.Entry{{Path: "A", Blob: commit}, lost}, api.ErrNone},
	} {
		puts(t, r.what, s, treeOf(r.l...), api.OK)
		filesAre(t, r.what, s, sum(treeOf(r.l...)), nil, r.want)
	}
	was := s.Len()
	for _, k := range []api.Key{none, {1}, sum(blob("2")), sum(treeOf())} {
		filesAre(t, "what is not there", s, k, nil, api.ErrNone)
	}
	filesAre(t, "a blob", s, text, nil, api.ErrForm)
	filesAre(t, "a commit", s, commit, nil, api.ErrForm)
	if s.Len() != was {
		t.Errorf("P16.2: Files puts %d objects", s.Len()-was)
	}
	puts(t, "what was not there", s, blob("2"), api.OK)
	filesAre(t, "a blob that came behind its tree", s, sum(treeOf(lost)), []api.File{file("a", "2")}, api.OK)
}

func TestCommits(t *testing.T) {
	s := store.New()
	tree, _ := s.PutTree([]api.File{file("a", "1")})
	// Of a tree that is there it isn't asked whether its blobs are.
	bare, _ := s.Put(treeOf(api.Entry{Path: "a"}))
	text := sum(blob("1"))
	root := api.Commit{Rooted: true, Tree: tree, Message: "m", Serial: 1<<64 - 1}
	isKey(t, "P16.2: PutCommit of a root", commitOf(root), api.OK)(s.PutCommit(root))
	k := sum(commitOf(root))
	child := api.Commit{Parent: k, Tree: bare, Message: long(1_000)}
	isKey(t, "P16.2: PutCommit of a child", commitOf(child), api.OK)(s.PutCommit(child))
	all := [][]byte{blob("1"), treeOfFiles([]api.File{file("a", "1")}), treeOf(api.Entry{Path: "a"}), commitOf(root), commitOf(child)}
	has(t, "two commits", s, all...)
	for _, r := range []struct {
		what string
		c    api.Commit
		want api.Errno
	}{
		{"one that is there", child, api.OK},
		{"another one that is there", root, api.OK},
		{"nothing", api.Commit{}, api.ErrNone},
		{"a tree that is not there", api.Commit{Rooted: true, Tree: api.Key{1}}, api.ErrNone},
		{"no tree", api.Commit{Rooted: true}, api.ErrNone},
		{"a blob for a tree", api.Commit{Rooted: true, Tree: text}, api.ErrNone},
		{"a commit for a tree", api.Commit{Rooted: true, Tree: k}, api.ErrNone},
		{"a tree that is not there, on a commit", api.Commit{Parent: k, Tree: api.Key{1}}, api.ErrNone},
		{"a commit for a tree, on a commit", api.Commit{Parent: k, Tree: k}, api.ErrNone},
		{"no parent", api.Commit{Tree: tree}, api.ErrNone},
		{"a parent that is not there", api.Commit{Parent: api.Key{1}, Tree: tree}, api.ErrNone},
		{"a tree for a parent", api.Commit{Parent: tree, Tree: tree}, api.ErrNone},
		{"a blob for a parent", api.Commit{Parent: text, Tree: tree}, api.ErrNone},
		{"a root with a parent", api.Commit{Rooted: true, Parent: k, Tree: tree}, api.ErrForm},
		{"a root with a parent and no tree", api.Commit{Rooted: true, Parent: k}, api.ErrForm},
		{"a long message", api.Commit{Rooted: true, Tree: tree, Message: long(1_001)}, api.ErrLimit},
		{"a long message and nothing else", api.Commit{Message: long(1_001)}, api.ErrLimit},
		{"a long message of a root with a parent", api.Commit{Rooted: true, Parent: k, Message: long(1_001)}, api.ErrLimit},
	} {
		isKey(t, "P16.2: PutCommit of "+r.what, commitOf(r.c), r.want)(s.PutCommit(r.c))
		has(t, "as ahead of "+r.what, s, all...)
	}
	commitIs(t, "a root", s, k, root, api.OK)
	commitIs(t, "a child", s, sum(commitOf(child)), child, api.OK)
	commitIs(t, "a tree", s, tree, api.Commit{}, api.ErrForm)
	commitIs(t, "a blob", s, text, api.Commit{}, api.ErrForm)
	commitIs(t, "nothing", s, none, api.Commit{}, api.ErrNone)
	commitIs(t, "what is not there", s, sum(nil), api.Commit{}, api.ErrNone)
	// Put asks an object alone for what it is, not what it names: so a commit may be there that has neither tree nor parent.
	odd := api.Commit{Parent: api.Key{1}, Tree: api.Key{2}, Message: "odd"}
	puts(t, "a commit of nothing that is there", s, commitOf(odd), api.OK)
	commitIs(t, "a commit of nothing that is there", s, sum(commitOf(odd)), odd, api.OK)
	isKey(t, "P16.2: PutCommit of it", nil, api.ErrNone)(s.PutCommit(odd))
}

// roomy answers l with room behind its end that holds other things, and what tells whether that, too, is as it was.
func roomy[T comparable](l []T, other T) ([]T, func() bool) {
	all := append(slices.Clone(l), other, other)
	was := slices.Clone(all)
	return all[:len(l)], func() bool { return slices.Equal(all, was) }
}

func TestWhatIsHandedInStays(t *testing.T) {
	s := store.New()
	for _, whole := range [][]byte{blob("ab"), treeOf(api.Entry{Path: "a"}), commitOf(api.Commit{Message: "m"}), {9, 9}} {
		b, kept := roomy(whole, 7)
		k, e := s.Put(b)
		s.Put(b[:1])
		if !kept() {
			t.Errorf("R3: Put changes the bytes % x", whole)
		}
		clear(b[:cap(b)])
		if got, _ := s.Get(k); e == api.OK && !bytes.Equal(got, whole) {
			t.Errorf("R3: the store goes on with the bytes % x", whole)
		}
	}
	files := []api.File{file("a", "1"), program("b", "2")}
	l, kept := roomy(files, file("z", "9"))
	k, _ := s.PutTree(l)
	s.PutTree(l[:1])
	if !kept() {
		t.Error("R3: PutTree changes the list that it is given")
	}
	clear(l[:cap(l)])
	filesAre(t, "a list that was written into", s, k, files, api.OK)
}

func TestWhatIsHandedOutIsNew(t *testing.T) {
	s := store.New()
	s.Put(blob("ab"))
	fork := s.Fork()
	files := []api.File{file("a", "ab"), file("b", "2")}
	k, _ := s.PutTree(files)
	for i := range s.Len() {
		at, _ := s.At(i)
		got, _ := s.Get(sum(at))
		was := slices.Clone(at)
		clear(at[:cap(at)])
		if !bytes.Equal(got, was) {
			t.Errorf("R3: Get and At answer the same bytes of %d", i)
		}
		clear(got[:cap(got)])
		if again, is := s.Get(sum(was)); !is || !bytes.Equal(again, was) {
			t.Errorf("R3: who writes into what is handed out writes into the store: % x", again)
		}
	}
	has(t, "a fork of a store whose bytes were written into", fork, blob("ab"))
	got, _ := s.Files(k)
	clear(got[:cap(got)])
	filesAre(t, "a list that was written into", s, k, files, api.OK)
	at, _ := fork.At(0)
	clear(at)
	has(t, "a store of whose fork bytes were written into", s, blob("ab"), blob("2"), treeOfFiles(files))
}

// An answer hangs on the store alone: not on what was asked ahead of it, nor on what is asked beside it, nor on its forks.
func TestAnswersHangOnTheStoreAlone(t *testing.T) {
	s := store.New()
	files := []api.File{file("a", "1"), file("b", "2")}
	tree, _ := s.PutTree(files)
	c := api.Commit{Rooted: true, Tree: tree, Message: "m"}
	k, _ := s.PutCommit(c)
	all := [][]byte{blob("1"), blob("2"), treeOfFiles(files), commitOf(c)}
	var w sync.WaitGroup
	for n := range 4 {
		w.Go(func() {
			for i := range 50 {
				fork := s.Fork()
				own := blob(fmt.Sprint("of ", n, i))
				puts(t, "a fork of its own", fork, own, api.OK)
				has(t, "a fork of its own", fork, append(slices.Clone(all), own)...)
				has(t, "one that is asked beside it", s, all...)
				filesAre(t, "one that is asked beside it", s, tree, files, api.OK)
				commitIs(t, "one that is asked beside it", s, k, c, api.OK)
			}
		})
	}
	w.Wait()
}
