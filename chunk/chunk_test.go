package chunk_test

import (
	"fmt"
	"slices"
	"strings"
	"testing"

	"rick/api"
	"rick/chunk"
	"rick/diff"
)

// list answers the bytes of s, each as a line.
func list(s string) []string {
	var l []string
	for i := range len(s) {
		l = append(l, s[i:i+1])
	}
	return l
}

// chunks answers the words of s, each as a chunk: a sign of its kind, then what stands in base, ours and theirs, of which each byte is a line.
func chunks(s string) []api.Chunk {
	var l []api.Chunk
	for _, word := range strings.Fields(s) {
		part := strings.Split(word[1:], "/")
		kind := strings.IndexByte("=<>&!", word[0]) + api.Stable
		l = append(l, api.Chunk{Kind: kind, Base: list(part[0]), Ours: list(part[1]), Theirs: list(part[2])})
	}
	return l
}

// alike tells whether two chunks are the same.
func alike(x, y api.Chunk) bool {
	return x.Kind == y.Kind && slices.Equal(x.Base, y.Base) && slices.Equal(x.Ours, y.Ours) && slices.Equal(x.Theirs, y.Theirs)
}

// same tells whether two lists of chunks are the same.
func same(a, b []api.Chunk) bool {
	return slices.EqualFunc(a, b, alike)
}

// copied answers l in memory of its own.
func copied(l []api.Chunk) []api.Chunk {
	var c []api.Chunk
	for _, x := range l {
		c = append(c, api.Chunk{Kind: x.Kind, Base: slices.Clone(x.Base), Ours: slices.Clone(x.Ours), Theirs: slices.Clone(x.Theirs)})
	}
	return c
}

// mirrored answers l with ours and theirs exchanged.
func mirrored(l []api.Chunk) []api.Chunk {
	c := copied(l)
	for i, x := range c {
		c[i].Ours, c[i].Theirs = x.Theirs, x.Ours
		switch x.Kind {
		case api.Ours:
			c[i].Kind = api.Theirs
		case api.Theirs:
			c[i].Kind = api.Ours
		}
	}
	return c
}

// told answers v as text, of which no more is told than can be read.
func told(v any) string {
	return fmt.Sprintf("%.600s", fmt.Sprintf("%q", v))
}

// falls fails unless Of answers just these chunks, and, where ours and theirs are exchanged, these mirrored.
func falls(t *testing.T, what string, base, ours, theirs []string, want []api.Chunk) {
	t.Helper()
	if got := chunk.Of(base, ours, theirs); !same(got, want) {
		t.Errorf("P9.1: Of, %s: of %s, %s, %s: %s; want %s", what, told(base), told(ours), told(theirs), told(got), told(want))
	}
	if got, want := chunk.Of(base, theirs, ours), mirrored(want); !same(got, want) {
		t.Errorf("P9.1: Of, %s, ours and theirs exchanged: of %s, %s, %s: %s; want %s", what, told(base), told(theirs), told(ours), told(got), told(want))
	}
}

func TestOf(t *testing.T) {
	for _, c := range []struct{ what, base, ours, theirs, want string }{
		{"the document's example", "ab", "ac", "ab", "=a/a/a <b/c/b"},
		{"no line", "", "", "", ""},
		{"what is alike is one run", "abc", "abc", "abc", "=abc/abc/abc"},
		{"lines that are alike are one run", "aaa", "aaa", "aaa", "=aaa/aaa/aaa"},

		{"ours alone changed all", "ab", "xyz", "ab", "<ab/xyz/ab"},
		{"theirs alone changed all", "ab", "ab", "xyz", ">ab/ab/xyz"},
		{"both changed all to the same", "ab", "xyz", "xyz", "&ab/xyz/xyz"},
		{"both changed all, unlike", "ab", "xy", "xz", "!ab/xy/xz"},
		{"ours alone deleted all", "ab", "", "ab", "<ab//ab"},
		{"both deleted all", "ab", "", "", "&ab//"},
		{"one deleted all, the other one changed all", "ab", "", "x", "!ab//x"},
		{"one deleted all, the other one a line", "ab", "", "b", "!ab//b"},
		{"ours alone made lines of nothing", "", "ab", "", "</ab/"},
		{"theirs alone made lines of nothing", "", "", "ab", ">//ab"},
		{"both made the same of nothing", "", "ab", "ab", "&/ab/ab"},
		{"both made lines of nothing, unlike", "", "ab", "ac", "!/ab/ac"},
		{"both made lines of nothing, one more", "", "ab", "abc", "!/ab/abc"},

		{"ahead of the first run", "ab", "xb", "ab", "<a/x/a =b/b/b"},
		{"ahead of the first run, more", "b", "xyb", "b", "</xy/ =b/b/b"},
		{"ahead of the first run, less", "ab", "b", "ab", "<a//a =b/b/b"},
		{"behind the last run", "ab", "ab", "ax", "=a/a/a >b/b/x"},
		{"behind the last run, more", "a", "a", "axy", "=a/a/a >//xy"},
		{"behind the last run, less", "ab", "ab", "a", "=a/a/a >b/b/"},
		{"between two runs", "abc", "axc", "axc", "=a/a/a &b/x/x =c/c/c"},
		{"between two runs, more", "ac", "abc", "abc", "=a/a/a &/b/b =c/c/c"},
		{"between two runs, less", "abc", "ac", "ac", "=a/a/a &b// =c/c/c"},
		{"between two runs, unlike", "abc", "axc", "ayc", "=a/a/a !b/x/y =c/c/c"},
		{"between two runs, unlike, more", "ac", "axc", "ayc", "=a/a/a !/x/y =c/c/c"},
		{"between two runs, more or less", "abc", "abxc", "ac", "=a/a/a !b/bx/ =c/c/c"},
		{"on both ends", "b", "xb", "by", "</x/ =b/b/b >//y"},
		{"on both ends, by both", "abc", "xby", "xbz", "&a/x/x =b/b/b !c/y/z"},

		{"what only ours parts", "ab", "axb", "ab", "=a/a/a </x/ =b/b/b"},
		{"what only theirs parts", "ab", "ab", "axb", "=a/a/a >//x =b/b/b"},
		{"what only base parts", "axb", "ab", "ab", "=a/a/a &x// =b/b/b"},
		{"what base and ours part", "axb", "ayb", "ab", "=a/a/a !x/y/ =b/b/b"},
		{"what base and ours part alike", "axb", "axb", "ab", "=a/a/a >x/x/ =b/b/b"},
		{"what ours and theirs part alike", "ab", "axb", "axb", "=a/a/a &/x/x =b/b/b"},
		{"what ours and theirs part alike, at two places", "abc", "axbyc", "axbyc", "=a/a/a &/x/x =b/b/b &/y/y =c/c/c"},
		{"what ours and theirs part unlike", "ab", "axb", "ayyb", "=a/a/a !/x/yy =b/b/b"},

		{"changes at one line each, a line between", "abc", "xbc", "aby", "<a/x/a =b/b/b >c/c/y"},
		{"changes at one line each, none between", "abcd", "axcd", "abyd", "=a/a/a !bc/xc/by =d/d/d"},
		{"a line more just behind what the other one changed", "ab", "xb", "ayb", "!a/x/ay =b/b/b"},
		{"a line more just ahead of what the other one changed", "ab", "xb", "yab", "!a/x/ya =b/b/b"},
		{"a line more at the place of what the other one deleted", "abc", "ac", "abxc", "=a/a/a !b//bx =c/c/c"},
		{"a line that one deleted, and the other one the next one", "abcd", "acd", "abd", "=a/a/a !bc/c/b =d/d/d"},
		{"one changed what the other one changed, and more", "abcd", "axcd", "axyd", "=a/a/a !bc/xc/xy =d/d/d"},
		{"both changed to the same, and one more behind", "abc", "xbc", "xby", "&a/x/x =b/b/b >c/c/y"},
		{"all kinds", "abcdefghi", "abXdYfghZ", "aWcdYfVhU", "=a/a/a !bc/bX/Wc =d/d/d &e/Y/Y =f/f/f >g/g/V =h/h/h !i/Z/U"},

		{"a line that ours moved back", "ab", "ba", "ab", "<a//a =b/b/b </a/"},
		{"a line that both moved back", "ab", "ba", "ba", "&a// =b/b/b &/a/a"},
		{"a line that one moved back, and the other one deleted", "ab", "ba", "b", "&a// =b/b/b </a/"},
		{"a line that one moved back, and the other one changed", "ab", "ba", "xb", "!a//x =b/b/b </a/"},
		{"a line that ours moved ahead", "abc", "cab", "abc", "</c/ =ab/ab/ab <c//c"},
		{"each moved another line", "abcd", "bacd", "abdc", "<a//a =b/b/b !c/ac/ =d/d/d >//c"},
		{"each moved another line, past a third one", "abc", "cab", "bca", "!a/ca/ =b/b/b !c//ca"},
		{"the first of lines that are alike are kept", "aaa", "aa", "aaa", "=aa/aa/aa <a//a"},
		{"the first of lines that are alike are kept, by both", "aaa", "aa", "a", "=a/a/a !aa/a/"},
		{"the first of lines that are alike are kept, more of them", "a", "aaa", "aa", "=a/a/a !/aa/a"},
		{"no line is kept by both", "ab", "a", "b", "!ab/a/b"},
		{"ours' lines are base's, though no line is firm", "a", "a", "x", ">a/a/x"},
	} {
		falls(t, c.what, list(c.base), list(c.ours), list(c.theirs), chunks(c.want))
	}
}

func TestLinesAreAnyBytes(t *testing.T) {
	long := strings.Repeat("x", 100_000)
	base := []string{"", "a\n", "\xff", "\u00e9\n", "b", long}
	ours := []string{"", "a", "\xff", "\u00e9\n", "b\n", long}
	theirs := []string{"", "a\n", "\xfe", "\u00e9\n", "b\r\n", long + "\n"}
	falls(t, "lines of any bytes", base, ours, theirs, []api.Chunk{
		{Kind: api.Stable, Base: base[:1], Ours: ours[:1], Theirs: theirs[:1]},
		{Kind: api.Conflict, Base: base[1:3], Ours: ours[1:3], Theirs: theirs[1:3]},
		{Kind: api.Stable, Base: base[3:4], Ours: ours[3:4], Theirs: theirs[3:4]},
		{Kind: api.Conflict, Base: base[4:], Ours: ours[4:], Theirs: theirs[4:]},
	})
	falls(t, "a line of nothing is a line", []string{""}, []string{"", ""}, nil, []api.Chunk{
		{Kind: api.Conflict, Base: []string{""}, Ours: []string{"", ""}},
	})
	falls(t, "a newline less is a change", []string{"a\n"}, []string{"a\n"}, []string{"a"}, []api.Chunk{
		{Kind: api.Theirs, Base: []string{"a\n"}, Ours: []string{"a\n"}, Theirs: []string{"a"}},
	})
}

func TestNilAndEmptyAreTheSame(t *testing.T) {
	if l := chunk.Of(nil, []string{}, nil); len(l) != 0 {
		t.Errorf("P9.1: Of no lines: %v; want none", l)
	}
	falls(t, "an empty list", []string{}, nil, list("a"), chunks(">//a"))
	falls(t, "an empty list", nil, []string{}, list("a"), chunks(">//a"))
	falls(t, "an empty list", list("a"), []string{}, nil, chunks("&a//"))
}

func TestClean(t *testing.T) {
	for _, c := range []struct {
		l    string
		want bool
	}{
		{"", true}, {"=a/a/a", true}, {"<a/b/a", true}, {">a/a/b", true}, {"&a/b/b", true}, {"=a/a/a <b/c/b =d/d/d >e/e/f &g/h/h", true},
		{"!a/b/c", false}, {"=a/a/a !b/c/d", false}, {"!a/b/c =d/d/d", false}, {"=a/a/a !b/c/d =e/e/e", false}, {"!a/b/c !d/e/f", false}, {"!a/a/a", false}, {"!//", false},
		{"<a/b/c", true}, {"=a/b/c", true}, {"=//", true},
	} {
		if got := chunk.Clean(chunks(c.l)); got != c.want {
			t.Errorf("P9.2: Clean of %s: %v; want %v", c.l, got, c.want)
		}
	}
	if !chunk.Clean(nil) || !chunk.Clean([]api.Chunk{}) {
		t.Error("P9.2: Clean of no chunk: false; want true")
	}
}

func TestMerged(t *testing.T) {
	for _, c := range []struct{ l, want string }{
		{"", ""}, {"=a/a/a", "a"}, {"<a/b/a", "b"}, {">a/a/b", "b"}, {"&a/b/b", "b"}, {"!a/b/c", "b"}, {"=ab/ab/ab", "ab"},
		{"<a//a", ""}, {">a/a/", ""}, {"</b/", "b"}, {">//b", "b"}, {"!a//c", ""}, {"=//", ""},
		{"=a/a/a <b/xy/b =c/c/c >d/d/zw =e/e/e &f/v/v =g/g/g !h/st/u =i/i/i", "axyczwevgsti"}, {"!a/b/c >d/d/e !f//g", "be"}, {">a/a/b >c/c/d", "bd"},
		{"=a/b/c", "b"}, {"<a/b/c", "b"}, {">a/b/c", "c"}, {"&a/b/c", "b"},
	} {
		if got := chunk.Merged(chunks(c.l)); !slices.Equal(got, list(c.want)) {
			t.Errorf("P9.2: Merged of %s: %q; want %q", c.l, got, list(c.want))
		}
	}
	if l := chunk.Merged([]api.Chunk{}); len(l) != 0 {
		t.Errorf("P9.2: Merged of no chunk: %q; want none", l)
	}
}

func TestOtherKindsAreNeitherAConflictNorTheirs(t *testing.T) {
	for _, kind := range []int{0, -1, 6, -api.Theirs, -api.Conflict, 1<<8 + api.Conflict, 1<<16 + api.Theirs, 1<<32 + api.Conflict, 1<<62 + api.Theirs} {
		l := chunks("=a/a/a <b/c/d >e/f/g")
		l[1].Kind = kind
		if !chunk.Clean(l) {
			t.Errorf("P9.2: Clean of a chunk of the kind %d: false; want true", kind)
		}
		if got := chunk.Merged(l); !slices.Equal(got, list("acg")) {
			t.Errorf("P9.2: Merged of a chunk of the kind %d: %q; want ours' lines", kind, got)
		}
	}
}

// where answers the place in to of each line of from, if diff.Script keeps it, else -1.
func where(from, to []string) []int {
	l := slices.Repeat([]int{-1}, len(from))
	script := diff.Script(from, to)
	for i, e := range script {
		if e.Kind == api.Keep {
			l[len(diff.Old(script[:i]))] = len(diff.New(script[:i]))
		}
	}
	return l
}

// firm answers how many lines of base are firm.
func firm(inOurs, inTheirs []int) int {
	n := 0
	for i := range inOurs {
		if inOurs[i] >= 0 && inTheirs[i] >= 0 {
			n++
		}
	}
	return n
}

// kindOf answers the kind of a chunk of lines that are not firm.
func kindOf(c api.Chunk) int {
	base, ours, theirs := fmt.Sprintf("%q", c.Base), fmt.Sprintf("%q", c.Ours), fmt.Sprintf("%q", c.Theirs)
	if ours == base {
		return api.Theirs
	}
	if theirs == base {
		return api.Ours
	}
	if ours == theirs {
		return api.Both
	}
	return api.Conflict
}

// faults answers what is not as the document says of the chunks l of these texts.
func faults(base, ours, theirs []string, l []api.Chunk) string {
	inOurs, inTheirs := where(base, ours), where(base, theirs)
	b, o, h, stable := 0, 0, 0, 0
	for k, c := range l {
		if b+len(c.Base) > len(base) || o+len(c.Ours) > len(ours) || h+len(c.Theirs) > len(theirs) {
			return "more lines than the texts have"
		}
		if len(c.Base)+len(c.Ours)+len(c.Theirs) == 0 {
			return "a chunk without lines"
		}
		if c.Kind == api.Stable {
			stable += len(c.Base)
			for i := range c.Base {
				if inOurs[b+i] != o+i || inTheirs[b+i] != h+i {
					return "a Stable chunk with a line that is not firm there"
				}
			}
			if len(c.Ours) != len(c.Base) || len(c.Theirs) != len(c.Base) {
				return "a Stable chunk that is longer in one text than in another one"
			}
		} else if c.Kind != kindOf(c) {
			return "a chunk of another kind"
		}
		if k > 0 && (l[k-1].Kind == api.Stable) == (c.Kind == api.Stable) {
			return "two chunks that could be one"
		}
		b, o, h = b+len(c.Base), o+len(c.Ours), h+len(c.Theirs)
	}
	if stable != firm(inOurs, inTheirs) {
		return "not all firm lines are in Stable chunks"
	}
	return ""
}

// joined answers the three texts that the chunks l are.
func joined(l []api.Chunk) (base, ours, theirs []string) {
	for _, c := range l {
		base, ours, theirs = append(base, c.Base...), append(ours, c.Ours...), append(theirs, c.Theirs...)
	}
	return base, ours, theirs
}

// holds fails unless the chunks of these texts are as the document says, and so is what follows.
func holds(t *testing.T, what string, base, ours, theirs []string) {
	t.Helper()
	l := chunk.Of(base, ours, theirs)
	if f := faults(base, ours, theirs, l); f != "" {
		t.Errorf("P9.1: Of, %s: of %s, %s, %s: %s: %s", what, told(base), told(ours), told(theirs), f, told(l))
	}
	if b, o, h := joined(l); !slices.Equal(b, base) || !slices.Equal(o, ours) || !slices.Equal(h, theirs) {
		t.Errorf("What follows: %s: one behind the other, the chunks of %s, %s, %s are %s, %s, %s", what, told(base), told(ours), told(theirs), told(b), told(o), told(h))
	}
	if back := chunk.Of(base, theirs, ours); !same(back, mirrored(l)) {
		t.Errorf("P9.1: Of, %s: of %s, %s, %s: %s; want, as where ours and theirs are exchanged: %s", what, told(base), told(theirs), told(ours), told(back), told(mirrored(l)))
	}
	clash := slices.ContainsFunc(l, func(c api.Chunk) bool { return c.Kind == api.Conflict })
	if chunk.Clean(l) == clash {
		t.Errorf("P9.2: Clean, %s: of %s: %v", what, told(l), clash)
	}
	var want []string
	for _, c := range l {
		want = append(want, map[bool][]string{false: c.Ours, true: c.Theirs}[c.Kind == api.Theirs]...)
	}
	if got := chunk.Merged(l); !slices.Equal(got, want) {
		t.Errorf("P9.2: Merged, %s: of %s: %s; want %s", what, told(l), told(got), told(want))
	}
}

// settles fails unless, where one side is base, or both are the same, all is clean, and the other one.
func settles(t *testing.T, what string, base, side []string) {
	t.Helper()
	for _, c := range []struct{ ours, theirs []string }{{side, base}, {base, side}, {side, side}} {
		l := chunk.Of(base, c.ours, c.theirs)
		if got := chunk.Merged(l); !chunk.Clean(l) || !slices.Equal(got, side) {
			t.Errorf("What follows: %s: Merged of the chunks of %s, %s, %s: %s, clean: %v; want %s, true", what, told(base), told(c.ours), told(c.theirs), told(got), chunk.Clean(l), told(side))
		}
	}
}

// texts answers all texts of up to n bytes that are made of these.
func texts(n int, from string) []string {
	all := []string{""}
	for at := 0; len(all[at]) < n; at++ {
		for i := range len(from) {
			all = append(all, all[at]+from[i:i+1])
		}
	}
	return all
}

func TestAllShortTexts(t *testing.T) {
	for _, all := range [][]string{texts(4, "ab"), texts(2, "abcd")} {
		for _, base := range all {
			for _, ours := range all {
				settles(t, "short texts", list(base), list(ours))
				for _, theirs := range all {
					holds(t, "short texts", list(base), list(ours), list(theirs))
				}
			}
		}
	}
}

// chance answers numbers that hang on the state alone, each below what it is asked for.
func chance(state uint32) func(below int) int {
	return func(below int) int {
		state = state*1_664_525 + 1_013_904_223
		return int(state>>8) % below
	}
}

// edited answers l with up to n lines more, and up to n less, at places that are chosen by next.
func edited(l []string, n, letters int, next func(below int) int) []string {
	l = slices.Clone(l)
	for range next(n + 1) {
		l = slices.Insert(l, next(len(l)+1), string([]byte{byte('a' + next(letters)), '\n'}))
	}
	for range min(next(n+1), len(l)) {
		i := next(len(l))
		l = slices.Delete(l, i, i+1)
	}
	return l
}

func TestLongerTexts(t *testing.T) {
	for state := uint32(1); state < 400; state++ {
		next, letters := chance(state), 2+int(state%23)
		base := edited(nil, 60, letters, next)
		ours, theirs := edited(base, 8, letters, next), edited(base, 8, letters, next)
		holds(t, "longer texts", base, ours, theirs)
		settles(t, "longer texts", base, ours)
		holds(t, "texts that have little in common", base, edited(nil, 60, letters, next), theirs)
	}
}

// many answers n lines, each unlike the other ones.
func many(n int, name string) []string {
	l := make([]string, n)
	for i := range l {
		l[i] = fmt.Sprint(name, i)
	}
	return l
}

// stable answers the chunk of lines that are all alike.
func stable(l []string) api.Chunk {
	return api.Chunk{Kind: api.Stable, Base: l, Ours: l, Theirs: l}
}

func TestTextsThatAreTooLongForAScript(t *testing.T) {
	head, tail := many(500, "head "), many(api.MaxLines, "tail ")
	just := tail[:api.MaxLines-1]
	with := func(line string, tail []string) []string {
		return slices.Concat(head, []string{line}, tail)
	}
	one := func(l []string, lines ...string) []string { return append(lines, l...) }
	falls(t, "MaxLines behind the head", with("x", just), with("y", just), with("z", just), []api.Chunk{
		stable(head), {Kind: api.Conflict, Base: []string{"x"}, Ours: []string{"y"}, Theirs: []string{"z"}}, stable(just),
	})
	falls(t, "more than MaxLines behind the head: none of them is firm", with("x", tail), with("y", tail), with("x", tail), []api.Chunk{
		stable(head), {Kind: api.Ours, Base: one(tail, "x"), Ours: one(tail, "y"), Theirs: one(tail, "x")},
	})
	falls(t, "more than MaxLines, by both to the same", with("x", tail), with("y", tail), with("y", tail), []api.Chunk{
		stable(head), {Kind: api.Both, Base: one(tail, "x"), Ours: one(tail, "y"), Theirs: one(tail, "y")},
	})
	falls(t, "more than MaxLines, a change of the other one behind it", with("x", tail), with("y", tail), append(with("x", just), "z"), []api.Chunk{
		stable(head), {Kind: api.Conflict, Base: one(tail, "x"), Ours: one(tail, "y"), Theirs: append(one(just, "x"), "z")},
	})
	falls(t, "more than MaxLines, a change of the other one within the head", with("x", tail), with("y", tail), append([]string{"z"}, with("x", tail)[1:]...), []api.Chunk{
		{Kind: api.Conflict, Base: with("x", tail), Ours: with("y", tail), Theirs: append([]string{"z"}, with("x", tail)[1:]...)},
	})
	falls(t, "more than MaxLines in one side alone", with("x", tail[:9]), with("y", tail), with("x", tail[:9]), []api.Chunk{
		stable(head), {Kind: api.Ours, Base: one(tail[:9], "x"), Ours: one(tail, "y"), Theirs: one(tail[:9], "x")},
	})
	falls(t, "more than MaxLines in one side alone, all of them behind base's end", with("x", tail[:9]), with("x", append(tail[:9:9], many(2*api.MaxLines, "more ")...)), with("z", tail[:9]), []api.Chunk{
		stable(head), {Kind: api.Theirs, Base: []string{"x"}, Ours: []string{"x"}, Theirs: []string{"z"}}, stable(tail[:9]), {Kind: api.Ours, Ours: many(2*api.MaxLines, "more ")},
	})
	falls(t, "more than MaxLines, alike", with("x", tail), with("x", tail), with("x", tail), []api.Chunk{stable(with("x", tail))})
}

func TestManyLines(t *testing.T) {
	const n = 100_000
	all := many(n, "line ")
	falls(t, "many lines, alike", all, all, all, []api.Chunk{stable(all)})
	falls(t, "many lines, one more by each", all, append(slices.Clip(all), "x"), append(slices.Clip(all), "y"), []api.Chunk{
		stable(all), {Kind: api.Conflict, Ours: []string{"x"}, Theirs: []string{"y"}},
	})
	falls(t, "many lines, less by one", all, all[:n/2], all, []api.Chunk{
		stable(all[:n/2]), {Kind: api.Ours, Base: all[n/2:], Theirs: all[n/2:]},
	})
	if got := chunk.Merged([]api.Chunk{stable(all), {Kind: api.Theirs, Theirs: all}}); !slices.Equal(got, slices.Concat(all, all)) {
		t.Error("P9.2: Merged of many lines: others")
	}
}

func TestManyChunks(t *testing.T) {
	// Each run is of one line, as ours has another one behind it.
	var base, ours []string
	var want []api.Chunk
	for i := range api.MaxLines / 2 {
		kept, more := fmt.Sprint("kept ", i), fmt.Sprint("more ", i)
		base, ours = append(base, kept), append(ours, kept, more)
		want = append(want, stable([]string{kept}), api.Chunk{Kind: api.Ours, Ours: []string{more}})
	}
	falls(t, "many chunks", base, ours, base, want)
}

// roomy answers three texts with room behind their ends; in the room all of them go on alike.
func roomy() [][]string {
	return [][]string{list("abcdef+++"), list("axcdZef+++"), list("abcyef+++")}
}

func TestWhatIsHandedInIsNotChanged(t *testing.T) {
	text := roomy()
	base, ours, theirs := text[0][:6], text[1][:7], text[2][:6]
	for range 2 {
		falls(t, "with room behind, which plays no part", base, ours, theirs, chunks("=a/a/a <b/x/b =c/c/c !d/dZ/y =ef/ef/ef"))
	}
	for i, want := range roomy() {
		if !slices.Equal(text[i], want) {
			t.Errorf("R3: Of changes the text %d, or the room behind it: %q", i, text[i])
		}
	}
	l := chunks("<a/b/a >b/b/c !d/e/f")
	for i, c := range l {
		l[i] = api.Chunk{Kind: c.Kind, Base: append(c.Base, "+")[:1], Ours: append(c.Ours, "+")[:1], Theirs: append(c.Theirs, "+")[:1]}
	}
	if chunk.Clean(l[:2]) != true || !slices.Equal(chunk.Merged(l[:2]), list("bc")) {
		t.Errorf("P9.2: what stands behind a list's end plays a part: %v, %q", chunk.Clean(l[:2]), chunk.Merged(l[:2]))
	}
	for i, c := range chunks("<a/b/a >b/b/c !d/e/f") {
		if !alike(l[i], c) || l[i].Base[:2][1]+l[i].Ours[:2][1]+l[i].Theirs[:2][1] != "+++" {
			t.Errorf("R3: Clean or Merged changes the chunk %d, or the room behind its lists: %v", i, l[i])
		}
	}
}

func TestWhatIsHandedOutIsNew(t *testing.T) {
	const want = "=a/a/a <b/x/b =c/c/c !d/dZ/y =ef/ef/ef"
	text := [][]string{list("abcdef"), list("axcdZef"), list("abcyef")}
	one, other := chunk.Of(text[0], text[1], text[2]), chunk.Of(text[0], text[1], text[2])
	merged, again := chunk.Merged(one), chunk.Merged(one)
	clear(merged[:cap(merged)])
	if !same(one, chunks(want)) || !slices.Equal(again, list("axcdZef")) {
		t.Errorf("R3: what is written into merged lines is seen in their chunks, or in others: %v, %q", one, again)
	}
	for _, c := range one {
		clear(c.Base[:cap(c.Base)])
		clear(c.Ours[:cap(c.Ours)])
		clear(c.Theirs[:cap(c.Theirs)])
	}
	clear(one[:cap(one)])
	if !slices.Equal(text[0], list("abcdef")) || !slices.Equal(text[1], list("axcdZef")) || !slices.Equal(text[2], list("abcyef")) || !same(other, chunks(want)) || !slices.Equal(again, list("axcdZef")) {
		t.Errorf("R3: what is written into chunks is seen in their texts, in other ones, or in what was merged of them: %q, %v, %q", text, other, again)
	}
	clear(text[0])
	clear(text[1])
	clear(text[2])
	if !same(other, chunks(want)) {
		t.Errorf("R3: what is written into texts is seen in their chunks: %v", other)
	}
}

// lists answers the lists of x.
func lists(x api.Chunk) [][]string {
	return [][]string{x.Base, x.Ours, x.Theirs}
}

func TestNoTwoListsOfOneAnswerShareMemory(t *testing.T) {
	one := list("abcdef")
	for what, l := range map[string][]api.Chunk{
		"of three texts":                  chunk.Of(list("abcdef"), list("axcdZef"), list("abcyef")),
		"of one list as all three":        chunk.Of(one, one, one),
		"of parts of one list":            chunk.Of(one[:5], one[1:], one[:3]),
		"of one list as base and ours":    chunk.Of(one[:3], one[:3], one[3:]),
		"of one list as both sides alike": chunk.Of(one[:3], one[3:], one[3:]),
	} {
		for i := range l {
			for k, part := range lists(l[i]) {
				rest := copied(l)
				was := slices.Clone(part)
				_ = append(part, "over", "over")
				clear(part)
				clear(lists(rest[i])[k])
				if !same(l, rest) {
					t.Errorf("R3: Of, %s: what is written into the list %d of the chunk %d, or behind it, is seen in another one: %v", what, k, i, l)
				}
				copy(part, was)
			}
		}
	}
}

func TestAnAnswerHangsOnNoCallAheadOfIt(t *testing.T) {
	for range 3 {
		falls(t, "behind other calls", list("ab"), list("ac"), list("ab"), chunks("=a/a/a <b/c/b"))
		falls(t, "behind other calls", nil, nil, nil, nil)
		falls(t, "behind other calls", list("abcdefghi"), list("abXdYfghZ"), list("aWcdYfVhU"), chunks("=a/a/a !bc/bX/Wc =d/d/d &e/Y/Y =f/f/f >g/g/V =h/h/h !i/Z/U"))
		if chunk.Clean(chunks("!a/b/c")) || !chunk.Clean(nil) || len(chunk.Merged(nil)) != 0 {
			t.Error("R2: Clean or Merged, behind other calls: another answer")
		}
	}
}
