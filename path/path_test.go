package path_test

import (
	"fmt"
	"slices"
	"strings"
	"testing"

	"rick/api"
	"rick/path"
)

func TestTheDocumentsExamples(t *testing.T) {
	if !path.Within("a/b", "a") {
		t.Error(`P11.2: Within("a/b", "a"): false; want true`)
	}
	if path.Right("a//b") {
		t.Error(`P11.1: Right("a//b"): true; want false`)
	}
}

func TestParts(t *testing.T) {
	for _, c := range []struct {
		p    string
		want []string
	}{
		{"", []string{""}},
		{"a", []string{"a"}},
		{"a/b", []string{"a", "b"}},
		{"ab/c.d/efg", []string{"ab", "c.d", "efg"}},
		{"/", []string{"", ""}},
		{"//", []string{"", "", ""}},
		{"/a", []string{"", "a"}},
		{"a/", []string{"a", ""}},
		{"a//b", []string{"a", "", "b"}},
		{"/a/b/", []string{"", "a", "b", ""}},
		{"./../a", []string{".", "..", "a"}},
		{"a\\b", []string{"a\\b"}},
		{"a b\n/\x00", []string{"a b\n", "\x00"}},
		{"\u012f/\u2215", []string{"\u012f", "\u2215"}},
		{"\xff/\xc4", []string{"\xff", "\xc4"}},
	} {
		if got := path.Parts(c.p); !slices.Equal(got, c.want) {
			t.Errorf("P11.1: Parts of %q: %q; want %q", c.p, got, c.want)
		}
	}
}

func TestPartsOfLongTexts(t *testing.T) {
	long := strings.Repeat("x", 300_000)
	if got := path.Parts(long + "/" + long); !slices.Equal(got, []string{long, long}) {
		t.Errorf("P11.1: Parts of two long parts: %d parts", len(got))
	}
	want := append(slices.Repeat([]string{"ab"}, 100_000), "")
	if got := path.Parts(strings.Repeat("ab/", 100_000)); !slices.Equal(got, want) {
		t.Errorf("P11.1: Parts of many parts: %d parts; want %d", len(got), len(want))
	}
}

func TestRight(t *testing.T) {
	for _, c := range []struct {
		p    string
		want bool
	}{
		{"a", true},
		{"a/b", true},
		{"src/main.go", true},
		{"A/b-c_d/0", true},
		{"...", true},
		{"..../a", true},
		{"a/.../b", true},
		{".a", true},
		{"..a", true},
		{"a.", true},
		{"a..", true},
		{"a../..b/.c/d.", true},
		{".a./..b..", true},
		{"a\\b", true},
		{"\\", true},
		{"c:/a", true},
		{"!", true},
		{"~", true},
		{"~/!", true},

		{"", false},
		{"/", false},
		{"//", false},
		{"/a", false},
		{"a/", false},
		{"a//b", false},
		{"//a", false},
		{"a//", false},
		{".", false},
		{"./a", false},
		{"a/.", false},
		{"a/./b", false},
		{"..", false},
		{"../a", false},
		{"a/..", false},
		{"a/../b", false},
		{"./..", false},
		{" ", false},
		{"a b", false},
		{" a", false},
		{"a ", false},
		{"a\n", false},
		{"a\tb", false},
		{"a/\x00", false},
		{"\x7f", false},
		{"a\x80", false},
		{"\u00e4", false},
		{"a/\u0161", false}, // a rune of which the lowest byte is a letter
		{"\u2026", false},
	} {
		if got := path.Right(c.p); got != c.want {
			t.Errorf("P11.1: Right of %q: %v; want %v", c.p, got, c.want)
		}
	}
}

func TestRightAsksEachByte(t *testing.T) {
	for n := range 256 {
		b := string([]byte{byte(n)})
		may := n >= 33 && n <= 126
		if got, want := path.Right(b), may && b != "/" && b != "."; got != want {
			t.Errorf("P11.1: Right of the byte %d alone: %v; want %v", n, got, want)
		}
		for _, p := range []string{"." + b + "a", "a" + b + "b", "ab/c" + b + "d", strings.Repeat("a", 50) + b + strings.Repeat("b", 49)} {
			if got, want := path.Right(p), may && p != "./a"; got != want {
				t.Errorf("P11.1: Right of %q, which has the byte %d: %v; want %v", p, n, got, want)
			}
		}
		for _, p := range []string{b + "a", "ab" + b, "a/" + b + "b", "a/b" + b, "a" + b + "/b"} {
			if got, want := path.Right(p), may && b != "/"; got != want {
				t.Errorf("P11.1: Right of %q, which has the byte %d: %v; want %v", p, n, got, want)
			}
		}
	}
}

func TestRightCountsBytes(t *testing.T) {
	if api.MaxPath != 100 {
		t.Fatalf("MaxPath is %d", api.MaxPath)
	}
	for _, n := range []int{1, 2, 3, 98, 99, 100, 101, 102, 127, 128, 199, 200, 255, 256, 257, 300, 356, 65_536, 65_537, 1_000_000} {
		for _, p := range []string{
			strings.Repeat("a", n),
			strings.Repeat(".", n) + "a",
			"a" + strings.Repeat("/b", n/2) + strings.Repeat("c", 1-n%2),
			strings.Repeat("a/", n/2) + "a",
		} {
			if got, want := path.Right(p), len(p) <= 100; got != want {
				t.Errorf("P11.1: Right of %d bytes, %.20q ..: %v; want %v", len(p), p, got, want)
			}
		}
	}
	fifty := strings.Repeat("a", 50)
	if !path.Right(fifty+"/"+fifty[1:]) || path.Right(fifty+"/"+fifty) {
		t.Error("P11.1: Right counts parts, not all of it")
	}
}

func TestWithin(t *testing.T) {
	for _, c := range []struct {
		p, dir string
		want   bool
	}{
		{"a/b", "a", true},
		{"a/b/c", "a", true},
		{"a/b/c", "a/b", true},
		{"ab/cd/ef", "ab/cd", true},
		{"a/a", "a", true},
		{"a/a/a", "a/a", true},

		{"a", "a", false},
		{"a/b", "a/b", false},
		{"a", "a/b", false},
		{"a", "b", false},
		{"ab", "a", false},
		{"a/bc", "a/b", false},
		{"a-b", "a", false},
		{"a0b", "a", false},
		{"a.b/c", "a", false},
		{"b/a", "a", false},
		{"b/a/c", "a", false},
		{"ba/c", "a", false},
		{"a/b/c", "b", false},
		{"a/b/c", "b/c", false},
		{"a/b/c", "a/c", false},
		{"A/b", "a", false},
		{"a\\b", "a", false},
		{"a\x00/b", "a", false},
		{"a/b", "ab", false},
		{"a/b", "a\x00", false},

		{"", "", false},
		{"", "a", false},
		{"a", "", false},
		{"a/b", "", false},
		{"/", "", true},
		{"/a", "", true},
		{"//", "", true},
		{"//", "/", true},
		{"/", "/", false},
		{"/a", "/", false},
		{"a/", "a", true},
		{"a/", "a/", false},
		{"a/b", "a/", false},
		{"a//b", "a", true},
		{"a//b", "a/", true},
		{"a//", "a/", true},
		{"./a", ".", true},
		{"../a", "..", true},
		{"../a", ".", false},
		{"a/../b", "b", false},
		{"\xff/a", "\xff", true},
		{"\xff/a", "\xfe", false},
		{"\u00e4/a", "\u00e4", true},
		{"\u00e4/a", "\xc3", false},
	} {
		if got := path.Within(c.p, c.dir); got != c.want {
			t.Errorf("P11.2: Within of %q, %q: %v; want %v", c.p, c.dir, got, c.want)
		}
		clash(t, c.p, c.dir, c.want || c.p == c.dir || path.Within(c.dir, c.p))
	}
}

func TestWithinAsksForJustTheSlash(t *testing.T) {
	for n := range 256 {
		p := "ab" + string([]byte{byte(n)}) + "c"
		if got, want := path.Within(p, "ab"), n == '/'; got != want {
			t.Errorf("P11.2: Within of %q, %q: %v; want %v", p, "ab", got, want)
		}
		clash(t, p, "ab", n == '/')
	}
}

func TestWithinOfLongTexts(t *testing.T) {
	long := strings.Repeat("x", 300_000)
	for _, c := range []struct {
		p, dir string
		want   bool
	}{
		{long + "/a", long, true},
		{long + "/" + long, long, true},
		{long, long, false},
		{long, long + "/", false},
		{long + "/", long, true},
		{"y" + long + "/a", "x" + long, false},
		{long + "y/a", long + "x", false},
	} {
		if got := path.Within(c.p, c.dir); got != c.want {
			t.Errorf("P11.2: Within of %d and %d bytes: %v; want %v", len(c.p), len(c.dir), got, c.want)
		}
		if got, want := path.Clash(c.p, c.dir), c.want || c.p == c.dir || c.p+"/" == c.dir; got != want {
			t.Errorf("P11.2: Clash of %d and %d bytes: %v; want %v", len(c.p), len(c.dir), got, want)
		}
	}
}

// clash fails unless Clash answers just this, whichever of the two comes first.
func clash(t *testing.T, a, b string, want bool) {
	t.Helper()
	if got := path.Clash(a, b); got != want {
		t.Errorf("P11.2: Clash of %q, %q: %v; want %v", a, b, got, want)
	}
	if got := path.Clash(b, a); got != want {
		t.Errorf("P11.2: Clash of %q, %q: %v; want %v", b, a, got, want)
	}
}

func TestClash(t *testing.T) {
	for _, c := range []struct {
		a, b string
		want bool
	}{
		{"a", "a", true},
		{"a/b", "a/b", true},
		{"a", "a/b", true},
		{"a", "a/b/c", true},
		{"a/b", "a/b/c", true},
		{"", "", true},
		{"", "/", true},
		{"", "/a", true},
		{"/", "/", true},
		{"/", "//", true},
		{"a", "a/", true},
		{"a//b", "a/", true},
		{"\xff", "\xff", true},
		{"\xff", "\xff/\xfe", true},

		{"a", "b", false},
		{"a", "A", false},
		{"a", "ab", false},
		{"a", "a.b", false},
		{"a", "a-b/c", false},
		{"a", "b/a", false},
		{"a/b", "a/c", false},
		{"a/b", "a/bc", false},
		{"a/b", "b/a", false},
		{"a/b/c", "a/c/b", false},
		{"", "a", false},
		{"", "a/b", false},
		{"/", "/a", false},
		{"/", "a/", false},
		{"a/", "a/b", false},
		{"a//b", "a/b", false},
		{"./a", "a", false},
		{"a/../b", "b", false},
		{"\xff", "\xfe", false},
		{"\xff", "\ufffd", false},
		{"\u00e9", "e\u0301", false},
	} {
		clash(t, c.a, c.b, c.want)
	}
}

// texts answers all texts of up to n bytes that are made of these.
func texts(n int, from string) []string {
	all := []string{""}
	for at := 0; len(all[at]) < n; at++ {
		for i := range len(from) {
			all = append(all, all[at]+from[i:i+1])
		}
	}
	return all
}

// partsElse answers what stands between the slashes of s, by another way than the program's.
func partsElse(s string) []string {
	l := []string{""}
	for i := range len(s) {
		if s[i] == '/' {
			l = append(l, "")
		} else {
			l[len(l)-1] += s[i : i+1]
		}
	}
	return l
}

// rightElse tells whether all of s may be as it is, where it is short, and has no byte that may not be.
func rightElse(s string) bool {
	closed := "/" + s + "/"
	return !strings.Contains(closed, "//") && !strings.Contains(closed, "/./") && !strings.Contains(closed, "/../")
}

func TestAllShortTexts(t *testing.T) {
	all := texts(8, "a./")
	if len(all) != (3*3*3*3*3*3*3*3*3-1)/2 {
		t.Fatalf("%d texts", len(all))
	}
	for _, s := range all {
		if got, want := path.Parts(s), partsElse(s); !slices.Equal(got, want) {
			t.Errorf("P11.1: Parts of %q: %q; want %q", s, got, want)
		}
		if got, want := path.Right(s), rightElse(s); got != want {
			t.Errorf("P11.1: Right of %q: %v; want %v", s, got, want)
		}
	}
}

// begins tells whether p has all of dir's parts, in order, and more behind them.
func begins(p, dir []string) bool {
	return len(p) > len(dir) && slices.Equal(p[:len(dir)], dir)
}

func TestAllPairsOfShortTexts(t *testing.T) {
	for _, all := range [][]string{texts(4, "ab/"), texts(7, "a/"), texts(4, "a-/0")} {
		for _, a := range all {
			for _, b := range all {
				below, above := begins(partsElse(a), partsElse(b)), begins(partsElse(b), partsElse(a))
				if got := path.Within(a, b); got != below {
					t.Errorf("P11.2: Within of %q, %q: %v; want %v", a, b, got, below)
				}
				if got, want := path.Clash(a, b), a == b || below || above; got != want {
					t.Errorf("P11.2: Clash of %q, %q: %v; want %v", a, b, got, want)
				}
			}
		}
	}
}

// folder is what a folder has, by names: a folder, or nil where a file stands.
type folder map[string]folder

// write makes a file of that path, and the folders about it; false, if something else stands there.
func (f folder) write(p string) bool {
	l := partsElse(p)
	for _, name := range l[:len(l)-1] {
		below, is := f[name]
		if is && below == nil {
			return false
		}
		if !is {
			below = folder{}
			f[name] = below
		}
		f = below
	}
	name := l[len(l)-1]
	if _, is := f[name]; is {
		return false
	}
	f[name] = nil
	return true
}

func TestOfTwoPathsThatDoNotClashBothMayBeFiles(t *testing.T) {
	var paths []string
	for _, p := range texts(5, "ab/") {
		if path.Right(p) {
			paths = append(paths, p)
		}
	}
	if len(paths) < 100 {
		t.Fatalf("%d paths", len(paths))
	}
	for _, a := range paths {
		for _, b := range paths {
			disk := folder{}
			if got := disk.write(a) && disk.write(b); got == path.Clash(a, b) {
				t.Errorf("What follows: of %q and %q both may be files: %v; Clash: %v", a, b, got, !got)
			}
		}
	}
}

func TestWhatIsHandedOutIsNew(t *testing.T) {
	const p = "a/b//c"
	want := []string{"a", "b", "", "c"}
	one, other := path.Parts(p), path.Parts(p)
	clear(one[:cap(one)])
	_ = append(one[:1], "Q", "Q", "Q", "Q")
	for what, got := range map[string][]string{"handed out ahead of it": other, "handed out behind it": path.Parts(p)} {
		if !slices.Equal(got, want) {
			t.Errorf("R3: who writes into one answer changes another one, %s: %q; want %q", what, got, want)
		}
	}
}

func TestAnAnswerHangsOnNoCallAheadOfIt(t *testing.T) {
	var first string
	for i := range 3 {
		told := fmt.Sprint(path.Right("a/b"), path.Right("a//b"), path.Right(strings.Repeat("a", 101)), path.Right(""), path.Parts("a/b"), path.Parts(""), path.Within("a/b", "a"), path.Within("a", "a/b"), path.Clash("a", "a"), path.Clash("a", "b"))
		if i == 0 {
			first = told
		}
		if told != first {
			t.Errorf("R2: what is answered hangs on what was asked ahead of it: %s; first: %s", told, first)
		}
	}
}
