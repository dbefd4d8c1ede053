package object_test

import (
	"bytes"
	"encoding/binary"
	"fmt"
	"slices"
	"strings"
	"sync"
	"testing"

	"rick/api"
	"rick/object"
)

// key is one whose bytes go on from that one.
func key(from int) api.Key {
	var k api.Key
	for i := range k {
		k[i] = byte(from + i)
	}
	return k
}

// long is a text of n bytes.
func long(n int) string { return strings.Repeat("x", n) }

// four are the bytes of a number that takes four, by another way than the program's.
func four(n int) []byte { return binary.LittleEndian.AppendUint32(nil, uint32(n)) }

// word is a text as octets tell it: how many bytes it has and one, and they.
func word(s string) []byte { return append(four(len(s)+1), s...) }

// truth is the byte of b.
func truth(b bool) []byte {
	if b {
		return []byte{1}
	}
	return []byte{0}
}

// entry is one of that path, with a key that hangs on it.
func entry(path string) api.Entry {
	return api.Entry{Path: path, Exec: len(path)%2 == 0, Blob: key(len(path) + int(path[0]))}
}

// entries answers one of each path, in order.
func entries(paths ...string) []api.Entry {
	var l []api.Entry
	for _, p := range paths {
		l = append(l, entry(p))
	}
	return l
}

// many answers n entries that are a tree, but for how many they are.
func many(n int) []api.Entry {
	var l []api.Entry
	for i := range n {
		l = append(l, entry(fmt.Sprintf("f%05d", i)))
	}
	return l
}

// treeOf is what the chapter says that is written of these entries, whether they are a tree or not, with that count ahead of them.
func treeOf(count int, l ...api.Entry) []byte {
	b := append([]byte{2}, four(count)...)
	for _, e := range l {
		b = slices.Concat(b, word(e.Path), truth(e.Exec), e.Blob[:])
	}
	return b
}

// commitOf is what the chapter says that is written of c, whether it may be or not.
func commitOf(c api.Commit) []byte {
	b := slices.Concat([]byte{3}, truth(c.Rooted), c.Parent[:], c.Tree[:], word(c.Message))
	return binary.LittleEndian.AppendUint64(b, c.Serial)
}

// treeWrites fails unless Tree of l answers so, and nothing beside an error.
func treeWrites(t *testing.T, what string, l []api.Entry, want api.Errno) {
	t.Helper()
	b, e := object.Tree(l)
	if e != want || e != api.OK && len(b) > 0 {
		t.Errorf("P15.1: Tree of %s: %d bytes, error %d; want error %d", what, len(b), e, want)
	}
	if e == api.OK && !bytes.Equal(b, treeOf(len(l), l...)) {
		t.Errorf("P15.1: Tree of %s: % x; want % x", what, b, treeOf(len(l), l...))
	}
}

// treeTakes fails unless TakeTree of b answers so, and nothing beside an error.
func treeTakes(t *testing.T, what string, b []byte, l []api.Entry, want api.Errno) {
	t.Helper()
	got, e := object.TakeTree(b)
	if e != want || !slices.Equal(got, l) {
		t.Errorf("P15.2: TakeTree of %s: %+v, error %d; want %+v, error %d", what, got, e, l, want)
	}
}

// commitTakes fails unless TakeCommit of b answers so, and nothing beside an error.
func commitTakes(t *testing.T, what string, b []byte, c api.Commit, want api.Errno) {
	t.Helper()
	got, e := object.TakeCommit(b)
	if e != want || got != c {
		t.Errorf("P15.2: TakeCommit of %s: %+v, error %d; want %+v, error %d", what, got, e, c, want)
	}
}

// blobTakes fails unless TakeBlob of b answers so, and nothing beside an error.
func blobTakes(t *testing.T, what string, b []byte, text string, want api.Errno) {
	t.Helper()
	got, e := object.TakeBlob(b)
	if e != want || got != text {
		t.Errorf("P15.2: TakeBlob of %s: %d bytes, error %d; want %d bytes, error %d", what, len(got), e, len(text), want)
	}
}

func TestTheDocumentsExample(t *testing.T) {
	if b, e := object.Blob(""); e != api.OK || !bytes.Equal(b, []byte{1}) {
		t.Errorf("P15.1: Blob of nothing: % x, error %d; want 01", b, e)
	}
}

func TestTheLimits(t *testing.T) {
	if api.MaxText != 20_000 || api.MaxFiles != 100 || api.MaxPath != 100 || api.MaxMessage != 1_000 {
		t.Fatalf("limits: %d, %d, %d, %d", api.MaxText, api.MaxFiles, api.MaxPath, api.MaxMessage)
	}
	if api.KindBlob != 1 || api.KindTree != 2 || api.KindCommit != 3 {
		t.Fatalf("kinds: %d, %d, %d", api.KindBlob, api.KindTree, api.KindCommit)
	}
}

func TestKind(t *testing.T) {
	for first := range 256 {
		want := 0
		if first >= 1 && first <= 3 {
			want = first
		}
		for _, rest := range [][]byte{nil, {0}, {1}, {2, 3}, []byte(long(50))} {
			if got := object.Kind(append([]byte{byte(first)}, rest...)); got != want {
				t.Errorf("P15.2: Kind of %d and %d bytes: %d; want %d", first, len(rest), got, want)
			}
		}
	}
	if a, b := object.Kind(nil), object.Kind([]byte{}); a != 0 || b != 0 {
		t.Errorf("P15.2: Kind of nothing: %d, %d; want 0", a, b)
	}
}

func TestBlob(t *testing.T) {
	for _, text := range []string{"", "a", "ab\n", "\x00", "\x01", "\xff\xfe", "ä€", "\x03\x00", long(255), long(256), long(api.MaxText)} {
		b, e := object.Blob(text)
		if e != api.OK || string(b) != "\x01"+text {
			t.Errorf("P15.1: Blob of %d bytes: %d bytes, error %d; want a byte 1, and they", len(text), len(b), e)
		}
		blobTakes(t, "what Blob wrote", b, text, api.OK)
	}
	for _, n := range []int{api.MaxText + 1, api.MaxText + 2, 10 * api.MaxText} {
		if b, e := object.Blob(long(n)); e != api.ErrLimit || len(b) > 0 {
			t.Errorf("P15.1: Blob of %d bytes: %d bytes, error %d; want error %d", n, len(b), e, api.ErrLimit)
		}
		blobTakes(t, "a text that is too long", []byte("\x01"+long(n)), "", api.ErrLimit)
	}
}

func TestEntries(t *testing.T) {
	for _, paths := range [][]string{
		{}, {"a"}, {"a", "b"}, {"a", "aa", "b"}, {"A", "a"}, {"a/b", "a/c", "b/a"}, {"a-b", "a/b", "a0b"}, {"a.", "a/b", "a0", "a0b"}, {"a/b-", "a/b/c"}, {"ab/c", "b/c", "c"}, {"!", "~"}, {"...", ".a"}, {long(api.MaxPath)}, {"a/" + long(api.MaxPath-2), "aa"},
	} {
		l := entries(paths...)
		treeWrites(t, fmt.Sprint(paths), l, api.OK)
		b, _ := object.Tree(l)
		treeTakes(t, fmt.Sprint(paths), b, l, api.OK)
	}
}

func TestEntriesThatAreNoTree(t *testing.T) {
	for _, l := range [][]api.Entry{
		{{Path: ""}}, {{Path: "a"}, {Path: ""}}, {{Path: ""}, {Path: "a"}}, entries("/"), entries("/a"), entries("a/"), entries("a//b"), entries("."), entries(".."), entries("a/.."), entries("./a"), entries("a b"), entries("a\x7f"), entries("a\x00"), entries("ä"), entries(long(api.MaxPath + 1)), entries("a", "b/", "c"),
		entries("b", "a"), entries("a", "a"), entries("a", "B"), entries("a", "c", "b"), entries("aa", "a"), entries("a0", "a/b"), entries("a/b", "a-b"),
		entries("a", "a/b"), entries("a", "a-b", "a/b"), entries("a", "a!", "a-", "a.", "a/b/c"), entries("a/b", "a/b/c"), entries("a/b", "a/b-", "a/b/c/d"), entries("0", "a", "a-b", "a/b", "z"), entries("a", "a-", "a-/x", "a/x"), entries("a-", "a-/x"),
	} {
		what := fmt.Sprint(l)
		treeWrites(t, what, l, api.ErrForm)
		treeTakes(t, what, treeOf(len(l), l...), nil, api.ErrForm)
	}
}

func TestHowManyEntries(t *testing.T) {
	for _, n := range []int{0, 1, 2, 99, api.MaxFiles} {
		treeWrites(t, fmt.Sprint(n, " entries"), many(n), api.OK)
		treeTakes(t, fmt.Sprint(n, " entries"), treeOf(n, many(n)...), many(n), api.OK)
	}
	for _, n := range []int{api.MaxFiles + 1, 256, 1000} {
		treeWrites(t, fmt.Sprint(n, " entries"), many(n), api.ErrForm)
		treeTakes(t, fmt.Sprint(n, " entries"), treeOf(n, many(n)...), nil, api.ErrForm)
	}
}

// A count is of four bytes, and just what it tells of has to follow.
func TestTheCount(t *testing.T) {
	two := entries("a", "b")
	for _, c := range []struct {
		count int
		want  api.Errno
	}{{0, api.ErrForm}, {1, api.ErrForm}, {2, api.OK}, {3, api.ErrShort}, {258, api.ErrShort}, {65_538, api.ErrShort}, {1<<31 - 1, api.ErrShort}, {1 << 31, api.ErrShort}, {1<<32 - 1, api.ErrShort}} {
		var want []api.Entry
		if c.want == api.OK {
			want = two
		}
		treeTakes(t, fmt.Sprint("two entries with the count ", c.count), treeOf(c.count, two...), want, c.want)
	}
	treeTakes(t, "the kind alone", []byte{2}, nil, api.ErrShort)
	treeTakes(t, "a count of three bytes", []byte{2, 0, 0, 0}, nil, api.ErrShort)
	treeTakes(t, "a count of none", []byte{2, 0, 0, 0, 0}, nil, api.OK)
	treeTakes(t, "a count of none, and a byte", []byte{2, 0, 0, 0, 0, 0}, nil, api.ErrForm)
	treeTakes(t, "a count of none that is told as an Int", []byte{2, 1, 0, 0, 0}, nil, api.ErrShort)
}

// What octets find counts ahead of all that a tree has to be.
func TestTheErrorOfOctets(t *testing.T) {
	none := treeOf(1, api.Entry{Path: ""})
	for _, c := range []struct {
		what string
		b    []byte
		want api.Errno
	}{
		{"paths that do not rise, and end too early", treeOf(3, entries("b", "a")...), api.ErrShort},
		{"paths that clash, and end too early", treeOf(3, entries("a", "a/b")...), api.ErrShort},
		{"a path that is not right, and ends too early", none[:len(none)-1], api.ErrShort},
		{"a path that is not right", none, api.ErrForm},
		{"too many, and one more", treeOf(102, many(101)...), api.ErrShort},
		{"a path of less than nothing", append([]byte{2, 1, 0, 0, 0}, four(0)...), api.ErrForm},
		{"a path of less than nothing, and much behind it", slices.Concat([]byte{2, 1, 0, 0, 0}, four(0), []byte(long(100))), api.ErrForm},
		{"a path that is longer than all", slices.Concat([]byte{2, 1, 0, 0, 0}, four(40), []byte(long(38))), api.ErrShort},
		{"a path of very many bytes", slices.Concat([]byte{2, 1, 0, 0, 0}, four(1<<32-1), []byte(long(38))), api.ErrShort},
		{"a truth of 2, and nothing behind it", slices.Concat([]byte{2, 1, 0, 0, 0}, word("a"), []byte{2}), api.ErrForm},
		{"a truth of 2 ahead of a path that ends too early", slices.Concat([]byte{2, 2, 0, 0, 0}, word("a"), []byte{2}, []byte(long(32)), four(9)), api.ErrForm},
		{"a truth of 255", slices.Concat([]byte{2, 1, 0, 0, 0}, word("a"), []byte{255}, []byte(long(32))), api.ErrForm},
		{"a key of 31 bytes", slices.Concat([]byte{2, 1, 0, 0, 0}, word("a"), []byte{1}, []byte(long(31))), api.ErrShort},
		{"a key of 33 bytes", slices.Concat([]byte{2, 1, 0, 0, 0}, word("a"), []byte{1}, []byte(long(33))), api.ErrForm},
	} {
		treeTakes(t, c.what, c.b, nil, c.want)
	}
}

// commits are some that may be written.
func commits() []api.Commit {
	all := []api.Commit{{}, {Rooted: true}, {Parent: key(1)}, {Tree: key(9)}, {Serial: 1<<64 - 1}, {Parent: key(1), Tree: key(2), Message: "m", Serial: 0x0102030405060708}, {Rooted: true, Tree: key(200), Message: "\x00\xff\n"}}
	for _, n := range []int{1, 2, 254, 255, 256, api.MaxMessage - 1, api.MaxMessage} {
		all = append(all, api.Commit{Rooted: n%2 == 0, Tree: key(n), Message: long(n), Serial: uint64(n) << 40})
	}
	// A parent of which a single byte tells is one.
	for i := range 32 {
		var k api.Key
		k[i] = 1
		all = append(all, api.Commit{Parent: k})
	}
	return all
}

func TestCommit(t *testing.T) {
	for i, c := range commits() {
		b, e := object.Commit(c)
		if e != api.OK || !bytes.Equal(b, commitOf(c)) {
			t.Errorf("P15.1: Commit of the row %d: % x, error %d; want % x", i, b, e, commitOf(c))
		}
		commitTakes(t, fmt.Sprint("the row ", i), b, c, api.OK)
	}
}

func TestCommitsThatMayNotBe(t *testing.T) {
	bad := []api.Commit{{Rooted: true, Parent: key(1)}, {Rooted: true, Parent: key(1), Message: long(api.MaxMessage)}}
	for i := range 32 {
		var k api.Key
		k[i] = byte(1 + 8*i%255)
		bad = append(bad, api.Commit{Rooted: true, Parent: k, Tree: key(i)})
	}
	for i, c := range bad {
		if b, e := object.Commit(c); e != api.ErrForm || len(b) > 0 {
			t.Errorf("P15.1: Commit of the row %d, with a root's parent: %d bytes, error %d; want error %d", i, len(b), e, api.ErrForm)
		}
		commitTakes(t, fmt.Sprintf("the row %d, with a root's parent", i), commitOf(c), api.Commit{}, api.ErrForm)
	}
	for _, n := range []int{api.MaxMessage + 1, 2 * api.MaxMessage, api.MaxText} {
		for _, c := range []api.Commit{{Message: long(n)}, {Rooted: true, Message: long(n)}, {Rooted: true, Parent: key(1), Message: long(n)}} {
			if b, e := object.Commit(c); e != api.ErrLimit || len(b) > 0 {
				t.Errorf("P15.1: Commit with a message of %d bytes: %d bytes, error %d; want error %d", n, len(b), e, api.ErrLimit)
			}
			commitTakes(t, fmt.Sprintf("a message of %d bytes", n), commitOf(c), api.Commit{}, api.ErrForm)
		}
	}
}

func TestBytesThatAreNoCommit(t *testing.T) {
	good := commitOf(api.Commit{Parent: key(1), Tree: key(5), Message: "message", Serial: 7})
	rooted := commitOf(api.Commit{Rooted: true, Parent: key(1)})
	for n := 1; n < len(good); n++ {
		commitTakes(t, fmt.Sprint("so many bytes: ", n), good[:n], api.Commit{}, api.ErrShort)
	}
	for n := 1; n < len(rooted); n++ {
		commitTakes(t, fmt.Sprint("so many bytes, with a root's parent: ", n), rooted[:n], api.Commit{}, api.ErrShort)
	}
	for _, n := range []int{1, 2, 100} {
		commitTakes(t, fmt.Sprint("bytes behind the end: ", n), append(slices.Clone(good), long(n)...), api.Commit{}, api.ErrForm)
	}
	for _, first := range []byte{2, 3, 128, 255} {
		odd := slices.Clone(good)
		odd[1] = first
		commitTakes(t, fmt.Sprint("Rooted of a byte ", first), odd, api.Commit{}, api.ErrForm)
		commitTakes(t, fmt.Sprint("Rooted of a byte, and no more: ", first), odd[:2], api.Commit{}, api.ErrForm)
	}
	less := slices.Clone(good)
	copy(less[66:], four(0))
	commitTakes(t, "a message of less than nothing", less, api.Commit{}, api.ErrForm)
	commitTakes(t, "a message of less than nothing, and no more", less[:70], api.Commit{}, api.ErrForm)
	more := slices.Clone(good)
	copy(more[66:], four(1<<32-1))
	commitTakes(t, "a message of very many bytes", more, api.Commit{}, api.ErrShort)
	tooLong := commitOf(api.Commit{Message: long(api.MaxMessage + 1)})
	commitTakes(t, "a message that is too long, and ends too early", tooLong[:len(tooLong)-1], api.Commit{}, api.ErrShort)
}

func TestAnotherKind(t *testing.T) {
	blob := []byte("\x01text")
	tree := treeOf(1, entries("a")...)
	commit := commitOf(api.Commit{Tree: key(1), Message: "m"})
	all := [][]byte{nil, {}, {0}, {4}, {255}, {0, 1}, []byte(long(20_010)), blob, tree, commit, {1}, {2}, {3}}
	for i, b := range all {
		// Only what may begin with any byte hangs on nothing else than the first one.
		kind := object.Kind(b)
		if kind != api.KindBlob {
			blobTakes(t, fmt.Sprint("another kind, the row ", i), b, "", api.ErrForm)
		}
		if kind != api.KindTree {
			treeTakes(t, fmt.Sprint("another kind, the row ", i), b, nil, api.ErrForm)
		}
		if kind != api.KindCommit {
			commitTakes(t, fmt.Sprint("another kind, the row ", i), b, api.Commit{}, api.ErrForm)
		}
	}
}

// What is written is taken, and nothing else: of each byte of an object that is turned there is either an error, or what is taken is what is written so.
func TestEachByteTurned(t *testing.T) {
	for _, whole := range [][]byte{treeOf(2, entries("a", "b/c")...), commitOf(api.Commit{Parent: key(1), Tree: key(5), Message: "me", Serial: 7}), commitOf(api.Commit{Rooted: true, Tree: key(5)}), {1, 'a', 'b'}} {
		for i := range whole {
			for v := range 256 {
				b := slices.Clone(whole)
				b[i] = byte(v)
				takenIsWritten(t, b)
			}
		}
	}
}

// takenIsWritten fails unless of each thing that is taken of b, b is what is written; it answers how many were.
func takenIsWritten(t *testing.T, b []byte) int {
	t.Helper()
	n := 0
	if text, e := object.TakeBlob(b); e == api.OK {
		n++
		isWritten(t, b, [][]byte{{1}, []byte(text)})
	} else if text != "" {
		t.Errorf("P15.2: TakeBlob of % x: %q beside the error %d", b, text, e)
	}
	if l, e := object.TakeTree(b); e == api.OK {
		n++
		isWritten(t, b, [][]byte{treeOf(len(l), l...)})
		treeWrites(t, "what was taken", l, api.OK)
	} else if len(l) > 0 {
		t.Errorf("P15.2: TakeTree of % x: %+v beside the error %d", b, l, e)
	}
	if c, e := object.TakeCommit(b); e == api.OK {
		n++
		isWritten(t, b, [][]byte{commitOf(c)})
		if _, e := object.Commit(c); e != api.OK {
			t.Errorf("P15.2: TakeCommit of % x: %+v, which Commit refuses: %d", b, c, e)
		}
	} else if c != (api.Commit{}) {
		t.Errorf("P15.2: TakeCommit of % x: %+v beside the error %d", b, c, e)
	}
	return n
}

// isWritten fails unless b is these pieces.
func isWritten(t *testing.T, b []byte, pieces [][]byte) {
	t.Helper()
	if want := slices.Concat(pieces...); !bytes.Equal(b, want) {
		t.Errorf("P15.2: taken of % x: what is written as % x", b, want)
	}
}

// dice answers numbers that are scattered, the same ones in each run.
type dice uint64

func (d *dice) next(n int) int {
	*d += 0x9e3779b97f4a7c15
	v := uint64(*d)
	v = (v ^ v>>30) * 0xbf58476d1ce4e5b9
	v = (v ^ v>>27) * 0x94d049bb133111eb
	return int((v ^ v>>31) % uint64(n))
}

// path is one that may or may not be right.
func (d *dice) path() string {
	parts := []string{"a", "b", "a-", "a.", "ab", "a", "b", "..", ".", "", "a b"}
	var l []string
	for range 1 + d.next(3) {
		l = append(l, parts[d.next(len(parts)-4*min(d.next(4), 1))])
	}
	return strings.Join(l, "/")
}

// mayBe tells by the words of the chapter whether l is a tree.
func mayBe(l []api.Entry) bool {
	if len(l) > 100 {
		return false
	}
	for i, a := range l {
		for _, part := range strings.Split(a.Path, "/") {
			if part == "" || part == "." || part == ".." || len(a.Path) > 100 || strings.Trim(part, "ab-.") != "" {
				return false
			}
		}
		for j, b := range l {
			if i < j && a.Path >= b.Path || i != j && strings.HasPrefix(b.Path, a.Path+"/") {
				return false
			}
		}
	}
	return true
}

func TestTreesOfTheDice(t *testing.T) {
	d := dice(15)
	right := 0
	for range 20_000 {
		var l []api.Entry
		for range d.next(6) {
			l = append(l, api.Entry{Path: d.path(), Exec: d.next(2) == 1, Blob: key(d.next(256))})
		}
		if d.next(4) > 0 {
			slices.SortFunc(l, func(a, b api.Entry) int { return strings.Compare(a.Path, b.Path) })
		}
		want := api.ErrForm
		var taken []api.Entry
		if mayBe(l) {
			right++
			want, taken = api.OK, l
		}
		treeWrites(t, fmt.Sprint(l), l, want)
		treeTakes(t, fmt.Sprint(l), treeOf(len(l), l...), taken, want)
	}
	if right < 2_000 || right > 18_000 {
		t.Errorf("of 20000 lists %d are trees: that is no fair test", right)
	}
}

func TestBytesOfTheDice(t *testing.T) {
	d := dice(51)
	taken := 0
	for range 30_000 {
		b := []byte{byte(d.next(4))}
		switch b[0] {
		case 2:
			b = treeOf(d.next(3), entries([]string{"a", "b/c"}[:d.next(3)]...)...)
		case 3:
			b = commitOf(api.Commit{Rooted: d.next(2) == 1, Tree: key(d.next(256)), Message: long(d.next(3)), Serial: uint64(d.next(1 << 30))})
		}
		for range d.next(3) {
			b[d.next(len(b))] = byte(d.next(256))
		}
		for range d.next(3) {
			b = append(b, byte(d.next(3)))
		}
		taken += takenIsWritten(t, b)
	}
	if taken < 3_000 {
		t.Errorf("of 30000 lists of bytes %d are objects: that is no fair test", taken)
	}
}

// roomy answers l with room behind its end that holds other things, and what tells whether that, too, is as it was.
func roomy[T any](l []T, other T, same func(a, b []T) bool) ([]T, func() bool) {
	all := append(slices.Clone(l), other, other)
	was := slices.Clone(all)
	return all[:len(l)], func() bool { return same(all, was) }
}

func TestWhatIsHandedInStays(t *testing.T) {
	l, kept := roomy(entries("a", "b/c"), entry("z"), slices.Equal)
	written, _ := object.Tree(l)
	object.Tree(l[:1])
	if !kept() {
		t.Error("R3: Tree changes the list that it is given")
	}
	l[0].Path, l[0].Blob = "turned", key(77)
	if !bytes.Equal(written, treeOf(2, entries("a", "b/c")...)) {
		t.Error("R3: Tree answers what goes on with the list that it was given")
	}
	for _, whole := range [][]byte{treeOf(2, entries("a", "b/c")...), commitOf(api.Commit{Tree: key(5), Message: "me"}), []byte("\x01text")} {
		b, kept := roomy(whole, 9, bytes.Equal)
		text, _ := object.TakeBlob(b)
		tree, _ := object.TakeTree(b)
		commit, _ := object.TakeCommit(b)
		object.Kind(b)
		object.TakeTree(b[:len(b)-1])
		object.TakeCommit(b[:len(b)-1])
		if !kept() {
			t.Errorf("R3: taking changes the bytes % x", whole)
		}
		wasText, wasTree, wasCommit := strings.Clone(text), slices.Clone(tree), commit
		clear(b)
		if text != wasText || !slices.Equal(tree, wasTree) || commit != wasCommit {
			t.Errorf("R3: what was taken goes on with the bytes % x", whole)
		}
	}
}

func TestWhatIsHandedOutIsNew(t *testing.T) {
	l := entries("a", "b")
	c := api.Commit{Tree: key(5), Message: "m"}
	for i, write := range []func() ([]byte, api.Errno){
		func() ([]byte, api.Errno) { return object.Blob("text") },
		func() ([]byte, api.Errno) { return object.Tree(l) },
		func() ([]byte, api.Errno) { return object.Commit(c) },
	} {
		first, _ := write()
		was := slices.Clone(first)
		clear(first[:cap(first)])
		if again, e := write(); e != api.OK || !bytes.Equal(again, was) {
			t.Errorf("R3: who writes into the answer of the row %d changes the next one: % x; want % x", i, again, was)
		}
	}
	b := treeOf(2, l...)
	first, _ := object.TakeTree(b)
	clear(first)
	treeTakes(t, "a tree that was taken ahead of it", b, l, api.OK)
}

// An answer hangs on the argument alone: not on what was asked ahead of it, nor on what is asked beside it.
func TestAnswersHangOnTheArgumentsAlone(t *testing.T) {
	l := entries("a", "b/c")
	c := api.Commit{Parent: key(3), Tree: key(5), Message: "m", Serial: 9}
	tree, commit := treeOf(2, l...), commitOf(c)
	var w sync.WaitGroup
	for range 4 {
		w.Go(func() {
			for range 50 {
				object.Tree(entries("b", "a"))
				object.TakeTree(tree[:20])
				object.TakeCommit(commit[:20])
				object.Commit(api.Commit{Rooted: true, Parent: key(1)})
				treeWrites(t, "what was written ahead of it", l, api.OK)
				treeTakes(t, "what was taken ahead of it", tree, l, api.OK)
				commitTakes(t, "what was taken ahead of it", commit, c, api.OK)
			}
		})
	}
	w.Wait()
}
