package pack_test

import (
	"bytes"
	"crypto/sha256"
	"encoding/binary"
	"fmt"
	"math"
	"slices"
	"strings"
	"sync"
	"testing"

	"rick/api"
	"rick/disk"
	"rick/pack"
	"rick/store"
)

// sum is the key of b, by another way than the program's.
func sum(b []byte) api.Key { return sha256.Sum256(b) }

// long is a text of n bytes.
func long(n int) string { return strings.Repeat("x", n) }

// head is what stands ahead of a record of which these are told.
func head(size, sum uint32) []byte {
	b := binary.LittleEndian.AppendUint32(nil, size)
	return binary.LittleEndian.AppendUint32(b, sum)
}

// frame is b as it stands in a file.
func frame(b []byte) []byte {
	k := sum(b)
	return append(head(uint32(len(b)), binary.LittleEndian.Uint32(k[:4])), b...)
}

// fileOf is the file of all that are given, and where each of them ends (0 first).
func fileOf(all ...[]byte) ([]byte, []int) {
	var file []byte
	ends := []int{0}
	for _, b := range all {
		file = append(file, frame(b)...)
		ends = append(ends, len(file))
	}
	return file, ends
}

// blob are the bytes of a text.
func blob(text string) []byte { return append([]byte{1}, text...) }

// treeOf are the bytes of the tree with one file.
func treeOf(path string, text api.Key) []byte {
	b := append(head(1, uint32(len(path)+1)), path...)
	return slices.Concat([]byte{2}, b, []byte{0}, text[:])
}

// commitOf are the bytes of a commit with a parent, and one byte of a message.
func commitOf(parent, tree api.Key, serial uint64) []byte {
	b := slices.Concat([]byte{3, 0}, parent[:], tree[:], []byte{2, 0, 0, 0, 'm'})
	return binary.LittleEndian.AppendUint64(b, serial)
}

// some are objects of each kind: a long one, short ones, and one that holds the Frame of another one.
func some() [][]byte {
	return [][]byte{
		blob("ab"),
		blob(""),
		commitOf(sum(nil), sum(nil), 1<<64-1),
		treeOf("a/b", sum(blob("ab"))),
		blob(string(frame(blob("within")))),
		{2, 0, 0, 0, 0},
		blob(long(1_000)),
	}
}

// storeOf is a store of these.
func storeOf(t *testing.T, all ...[]byte) *store.Store {
	t.Helper()
	s := store.New()
	for _, b := range all {
		if _, e := s.Put(b); e != api.OK {
			t.Fatalf("a store refuses % x: error %d", b, e)
		}
	}
	return s
}

// has fails unless s has just these objects, in that order, found by their keys, too.
func has(t *testing.T, what string, s *store.Store, all ...[]byte) {
	t.Helper()
	if s == nil || s.Len() != len(all) {
		t.Errorf("P17.1: %s: %d objects (nil: %v); want %d", what, s.Len(), s == nil, len(all))
		return
	}
	for i, want := range all {
		at, is := s.At(i)
		got, there := s.Get(sum(want))
		if !is || !there || !bytes.Equal(at, want) || !bytes.Equal(got, want) {
			t.Errorf("P17.1: %s: At(%d) % x, %v; Get % x, %v; want % x", what, i, at, is, got, there, want)
		}
	}
}

// loads fails unless Load of file answers a store of these, and so many bytes.
func loads(t *testing.T, what string, file []byte, taken int, all ...[]byte) {
	t.Helper()
	s, n := pack.Load(file)
	if n != taken {
		t.Errorf("P17.1: Load of %s: %d bytes; want %d", what, n, taken)
	}
	has(t, "Load of "+what, s, all...)
}

// writes fails unless Write answers these bytes.
func writes(t *testing.T, what string, s *store.Store, from int, want []byte) {
	t.Helper()
	if got := pack.Write(s, from); !bytes.Equal(got, want) {
		t.Errorf("P17.1: Write of %s, from %d: %d bytes: % x ..; want %d: % x ..", what, from, len(got), got[:min(len(got), 20)], len(want), want[:min(len(want), 20)])
	}
}

func TestTheDocumentsExample(t *testing.T) {
	loads(t, "nil", nil, 0)
	loads(t, "an empty list", []byte{}, 0)
	loads(t, "an empty list with room behind it", frame(blob("a"))[:0], 0)
}

func TestWriteOfOneBlob(t *testing.T) {
	writes(t, "one blob", storeOf(t, blob("ab")), 0, []byte{3, 0, 0, 0, 0x17, 0x04, 0x04, 0xe0, 1, 'a', 'b'})
}

func TestWriteFromEachPlace(t *testing.T) {
	all := some()
	s := storeOf(t, all...)
	file, ends := fileOf(all...)
	for from := range all {
		writes(t, "some", s, from, file[ends[from]:])
	}
	for _, from := range []int{-1, -2, -len(all), math.MinInt} {
		writes(t, "some, from below 0", s, from, file)
	}
	for _, from := range []int{len(all), len(all) + 1, math.MaxInt - 1, math.MaxInt} {
		writes(t, "some, from past the end", s, from, nil)
	}
	has(t, "what was written", s, all...)
}

func TestWriteInTheOrderInWhichTheyCame(t *testing.T) {
	all := some()
	slices.Reverse(all)
	file, _ := fileOf(all...)
	s := storeOf(t, all...)
	for _, b := range some() {
		s.Put(b)
	}
	writes(t, "what came once more", s, 0, file)
}

func TestWriteOfNothing(t *testing.T) {
	for what, s := range map[string]*store.Store{"nil": nil, "New": store.New(), "a zero value": {}} {
		for _, from := range []int{math.MinInt, -1, 0, 1, math.MaxInt} {
			writes(t, what, s, from, nil)
		}
	}
}

func TestWhatIsWrittenIsLoaded(t *testing.T) {
	all := some()
	s := storeOf(t, all...)
	_, ends := fileOf(all...)
	for from := range len(all) + 1 {
		loads(t, fmt.Sprint("what is written from ", from), pack.Write(s, from), ends[len(all)]-ends[from], all[from:]...)
	}
	l, _ := pack.Load(pack.Write(s, 0))
	writes(t, "what was loaded", l, 0, pack.Write(s, 0))
}

func TestWhatCommandsPutIsLoaded(t *testing.T) {
	s := store.New()
	files := []api.File{{Path: "a", Text: "1"}, {Path: "b/c", Exec: true, Text: long(api.MaxText)}}
	tree, _ := s.PutTree(files)
	first := api.Commit{Rooted: true, Tree: tree, Message: "first"}
	k, _ := s.PutCommit(first)
	n := s.Len()
	file := pack.Write(s, 0)
	second := api.Commit{Parent: k, Tree: tree, Message: long(api.MaxMessage), Serial: 1 << 20}
	last, _ := s.PutCommit(second)
	l, taken := pack.Load(append(file, pack.Write(s, n)...))
	if taken != len(pack.Write(s, 0)) || l.Len() != n+1 {
		t.Errorf("What follows: %d bytes, %d objects; want %d, %d", taken, l.Len(), len(pack.Write(s, 0)), n+1)
	}
	if got, e := l.Files(tree); e != api.OK || !slices.Equal(got, files) {
		t.Errorf("What follows: Files of what was loaded: %d files, error %d", len(got), e)
	}
	for k, want := range map[api.Key]api.Commit{k: first, last: second} {
		if got, e := l.Commit(k); e != api.OK || got != want {
			t.Errorf("What follows: Commit of what was loaded: %+v, error %d", got, e)
		}
	}
	if _, e := l.PutCommit(api.Commit{Parent: last, Tree: tree}); e != api.OK {
		t.Errorf("P17.1: a commit on what was loaded: error %d", e)
	}
}

// wholeAt is how many of them end at n, or ahead of it.
func wholeAt(ends []int, n int) int {
	whole := 0
	for whole+1 < len(ends) && ends[whole+1] <= n {
		whole++
	}
	return whole
}

func TestLoadOfWhatIsCut(t *testing.T) {
	all := some()
	file, ends := fileOf(all...)
	for n := range len(file) + 1 {
		whole := wholeAt(ends, n)
		loads(t, fmt.Sprint("what is cut at ", n), slices.Clone(file[:n]), ends[whole], all[:whole]...)
	}
}

func TestLoadOfATurnedBit(t *testing.T) {
	all := some()[:6]
	file, ends := fileOf(all...)
	for at := range file {
		for bit := range 8 {
			turned := slices.Clone(file)
			turned[at] ^= 1 << bit
			whole := wholeAt(ends, at)
			loads(t, fmt.Sprintf("bit %d of %d turned", bit, at), turned, ends[whole], all[:whole]...)
		}
	}
}

func TestLoadOfWhatNoFrameIs(t *testing.T) {
	first := frame(blob("first"))
	for what, b := range map[string][]byte{
		"a byte":                   {1},
		"seven bytes":              make([]byte, 7),
		"eight bytes":              make([]byte, 8),
		"bytes of one kind":        bytes.Repeat([]byte{0xff}, 100),
		"an object without a head": blob("as it is"),
		"another sum":              append(head(2, 0), blob("a")...),
		"more than are left":       frame(blob(long(100)))[:100],
		"far more than are left":   head(1<<32-1, 0),
		"more than a record has":   frame(blob(long(api.MaxRecord))),
	} {
		loads(t, what, b, 0)
		loads(t, what+", at the end", slices.Concat(first, b), len(first), blob("first"))
		loads(t, what+", within", slices.Concat(first, b, frame(blob("last"))), len(first), blob("first"))
	}
}

// refused are what Scan tells, but no object is.
func refused() map[string][]byte {
	tree, commit := treeOf("a", sum(nil)), commitOf(sum(nil), sum(nil), 0)
	rooted := slices.Clone(commit)
	rooted[1] = 1
	return map[string][]byte{
		"nothing":                        nil,
		"no kind":                        {0},
		"no kind either":                 {4, 'a'},
		"the last byte":                  {255},
		"a blob that is too long":        blob(long(api.MaxText + 1)),
		"a blob that is far too long":    blob(long(api.MaxRecord - 1)),
		"a tree that ends early":         tree[:len(tree)-1],
		"a tree that goes on":            append(slices.Clone(tree), 0),
		"a tree of a path that is wrong": treeOf("a//b", sum(nil)),
		"a commit that ends early":       commit[:len(commit)-1],
		"a commit that goes on":          append(slices.Clone(commit), 0),
		"a root that has a parent":       rooted,
	}
}

func TestLoadEndsAtTheFirstOneThatIsRefused(t *testing.T) {
	first, second, third := blob("first"), treeOf("b", sum(nil)), blob("third")
	two, ends := fileOf(first, second)
	for what, b := range refused() {
		bad := frame(b)
		loads(t, what, bad, 0)
		loads(t, what+" at the start", slices.Concat(bad, two), 0)
		loads(t, what+" behind one", slices.Concat(two[:ends[1]], bad, frame(third)), ends[1], first)
		loads(t, what+" behind two", slices.Concat(two, bad, frame(third), frame(first)), ends[2], first, second)
		loads(t, what+" twice", slices.Concat(two, bad, bad), ends[2], first, second)
		loads(t, what+" at the end", slices.Concat(two, bad), ends[2], first, second)
	}
}

func TestLoadOfWhatCameAlready(t *testing.T) {
	a, b := blob("a"), treeOf("b", sum(nil))
	file, ends := fileOf(a, a, b, a, b, b, blob("c"), a)
	for n, want := range [][][]byte{{}, {a}, {a}, {a, b}, {a, b}, {a, b}, {a, b}, {a, b, blob("c")}, {a, b, blob("c")}} {
		loads(t, fmt.Sprint("the first ", n, " of those that come twice"), file[:ends[n]], ends[n], want...)
		loads(t, fmt.Sprint("the first ", n, ", and one that is refused"), slices.Concat(file[:ends[n]], frame([]byte{9}), frame(a)), ends[n], want...)
	}
}

func TestLoadOfWhatLeansOnWhatIsNotThere(t *testing.T) {
	text := blob("1")
	tree := treeOf("a", sum(text))
	commit := commitOf(sum([]byte("none")), sum(tree), 0)
	file, ends := fileOf(commit, tree, text)
	loads(t, "what leans on what comes behind it", file, ends[3], commit, tree, text)
	loads(t, "what leans on what is not there", file[:ends[2]], ends[2], commit, tree)
}

func TestLoadOfMany(t *testing.T) {
	var all [][]byte
	for i := range 8_000 {
		all = append(all, blob(fmt.Sprint(i)))
	}
	file, ends := fileOf(all...)
	loads(t, "many", file, ends[len(all)], all...)
	writes(t, "many", storeOf(t, all...), 7_999, frame(blob("7999")))
	if got := pack.Write(storeOf(t, all...), 0); !bytes.Equal(got, file) {
		t.Errorf("P17.1: Write of many: %d bytes; want %d", len(got), len(file))
	}
}

func TestOfWhatACrashTearsTheWholeOnesAreLoaded(t *testing.T) {
	s := storeOf(t, blob("a"), treeOf("f", sum(blob("a"))))
	_, ends := fileOf(blob("a"), treeOf("f", sum(blob("a"))))
	d := disk.New(api.MaxDisk)
	if e := d.Append(api.Objects, pack.Write(s, 0)); e != api.OK {
		t.Fatalf("the disk takes nothing: error %d", e)
	}
	for keep := range ends[2] + 1 {
		crashed := d.Fork()
		crashed.Arm(0, []int{keep, 0})
		crashed.Sync(api.Objects)
		b, e := crashed.Restart().Read(api.Objects)
		if e != api.OK {
			t.Fatalf("a disk that is restarted: error %d", e)
		}
		l, n := pack.Load(b)
		if whole := wholeAt(ends, keep); l.Len() != whole || n != ends[whole] {
			t.Errorf("P17.1: %d bytes of what was torn: %d objects, %d bytes; want %d, %d", keep, l.Len(), n, whole, ends[whole])
		}
	}
}

func TestWhatIsHandedInStays(t *testing.T) {
	all := some()
	file, ends := fileOf(all...)
	room := append(slices.Clone(file), frame(blob("behind"))...)
	want := slices.Clone(room)
	for _, n := range []int{0, 5, ends[1], ends[3] + 1, len(file)} {
		given := room[:n]
		whole := wholeAt(ends, n)
		s, _ := pack.Load(given)
		if !bytes.Equal(room, want) {
			t.Fatal("R3: Load changes what it is given, or the room behind it")
		}
		clear(given)
		has(t, "a store whose file was written into (R3)", s, all[:whole]...)
		copy(room, want)
		s.Put(blob("more"))
		if !bytes.Equal(room, want) {
			t.Fatal("R3: a Put into what was loaded changes what was handed in")
		}
	}
}

func TestWhatIsWrittenIsNewMemory(t *testing.T) {
	all := some()
	s := storeOf(t, all...)
	file, _ := fileOf(all...)
	one, other := pack.Write(s, 0), pack.Write(s, 0)
	clear(one[:cap(one)])
	if !bytes.Equal(other, file) {
		t.Error("R3: who writes into what Write answers changes what it answered as well")
	}
	has(t, "a store of which what was written was written into (R3)", s, all...)
	s.Put(blob("more"))
	if !bytes.Equal(other, file) {
		t.Error("R3: a Put changes what was written")
	}
}

func TestLoadAnswersAStoreOfItsOwn(t *testing.T) {
	file := frame(blob("a"))
	one, _ := pack.Load(file)
	other, _ := pack.Load(file)
	one.Put(blob("b"))
	at, _ := one.At(0)
	clear(at)
	has(t, "a store beside which another one was loaded (R2)", other, blob("a"))
	has(t, "a store that goes on", one, blob("a"), blob("b"))
	writes(t, "what came behind", one, 1, frame(blob("b")))
	empty, _ := pack.Load(nil)
	empty.Put(blob("c"))
	loads(t, "nothing, though another one went on", nil, 0)
}

// An answer hangs on what was handed in alone: not on what was asked ahead of it, nor on what is asked beside it.
func TestAnswersHangOnWhatIsHandedInAlone(t *testing.T) {
	all := some()
	s := storeOf(t, all...)
	file, ends := fileOf(all...)
	var w sync.WaitGroup
	for n := range 4 {
		w.Go(func() {
			own := blob(fmt.Sprint("of ", n))
			for i := range 20 {
				from := (n + i) % len(all)
				writes(t, "some beside others (R2)", s, from, file[ends[from]:])
				loads(t, "some beside others (R2)", file, len(file), all...)
				loads(t, "one of its own (R2)", frame(own), len(own)+8, own)
			}
		})
	}
	w.Wait()
}
