package blame_test

import (
	"fmt"
	"slices"
	"strings"
	"testing"

	"rick/api"
	"rick/blame"
	"rick/diff"
	"rick/lines"
)

// list answers the bytes of s, each as a line.
func list(s string) []string {
	var l []string
	for i := range len(s) {
		l = append(l, s[i:i+1])
	}
	return l
}

// versions answers the words of s, each as a version of which each byte is a line; "." is one without lines.
func versions(s string) [][]string {
	var l [][]string
	for _, word := range strings.Fields(s) {
		l = append(l, list(strings.Trim(word, ".")))
	}
	return l
}

// places answers the digits of s as numbers.
func places(s string) []int {
	var l []int
	for i := range len(s) {
		l = append(l, int(s[i]-'0'))
	}
	return l
}

// cut answers at most so much of what stands in a list, to be told.
func cut[T any](l []T) string {
	if len(l) > 12 {
		return fmt.Sprintf("%v.. (%d)", l[:12], len(l))
	}
	return fmt.Sprint(l)
}

// brings fails unless Lines answers want of l.
func brings(t *testing.T, what string, l [][]string, want []int) {
	t.Helper()
	if got := blame.Lines(l); !slices.Equal(got, want) {
		t.Errorf("P8.1: Lines, %s: of %.200q: %s; want %s", what, l, cut(got), cut(want))
	}
}

// stacks fails unless Stack answers want of l.
func stacks(t *testing.T, what string, l []string, want ...int) {
	t.Helper()
	if got := blame.Stack(l); !slices.Equal(got, want) {
		t.Errorf("P8.1: Stack, %s: of %.200q: %s; want %s", what, l, cut(got), cut(want))
	}
}

func TestLines(t *testing.T) {
	for _, c := range []struct{ what, l, want string }{
		{"no version", "", ""},
		{"a version without lines", ".", ""},
		{"versions without lines", ". . .", ""},
		{"the first version brings all it has", "abc", "000"},
		{"the first version brings lines that are alike", "aaa", "000"},
		{"the second one brings a line, as in the document's example", "a ab", "01"},
		{"a line ahead of all", "b ab", "10"},
		{"a line between", "ac abc", "010"},
		{"a line that is replaced", "abc axc", "010"},
		{"a line that is deleted brings nothing", "abc ac", "00"},
		{"all lines are deleted", "abc .", ""},
		{"all lines are others", "ab xy", "11"},
		{"from no line on", ". ab", "11"},
		{"from no line on, later", ". . ab abc", "223"},
		{"a version that changes nothing brings nothing", "ab ab ab", "00"},
		{"a version that changes nothing, between", "a ab ab abc", "013"},
		{"a line is kept through many", "a xa xay wxay a", "0"},
		{"a line that comes ahead of one alike is kept in its stead", "a xa axa a", "2"},
		{"a line that comes again is brought by the later one", "a . a", "2"},
		{"a line that comes again elsewhere is brought by the later one", "ab ba", "01"},
		{"a line that comes back behind others", "ab b ba b ab", "40"},
		{"each version brings one", "a ab abc abcd abcde", "01234"},
		{"each version brings one, ahead", "e de cde bcde abcde", "43210"},
		{"each version replaces one", "abcd xbcd xycd xyzd xyzw", "1234"},
		{"one line is replaced by each", "abc axc ayc azc", "030"},
		{"the first of lines that are alike is kept", "a aa", "01"},
		{"the first of lines that are alike is kept, the other one is not", "a ba bab ab", "02"},
		{"lines move within", "abc bca", "001"},
		{"only the last version's lines are told", "abc abcd b", "0"},
		{"in the middle and at both ends", "bd abde abcde", "10201"},
	} {
		brings(t, c.what, versions(c.l), places(c.want))
	}
	brings(t, "an empty list", [][]string{}, nil)
	brings(t, "empty lists and nil", [][]string{nil, {}, {"a"}, {}, nil, {"a", "b"}}, []int{5, 5})
}

func TestStack(t *testing.T) {
	stacks(t, "the document's example", []string{"a\n", "a\nb\n"}, 0, 1)
	stacks(t, "no text", nil)
	stacks(t, "an empty list", []string{})
	stacks(t, "an empty text", []string{""})
	stacks(t, "empty texts", []string{"", "", ""})
	stacks(t, "one text", []string{"a\nb\nc"}, 0, 0, 0)
	stacks(t, "texts in which nothing changes", []string{"a\nb\n", "a\nb\n", "a\nb\n"}, 0, 0)
	stacks(t, "a line that gets its newline is another one", []string{"", "a\nb", "a\nb\n"}, 1, 2)
	stacks(t, "a line that loses its newline is another one", []string{"a\nb\n", "a\nb"}, 0, 1)
	stacks(t, "behind a line that gets its newline", []string{"a", "a\nb", "a\nb\nc\n"}, 1, 2, 2)
	stacks(t, "empty lines are lines", []string{"\n", "\n\n", "\nx\n\n"}, 0, 2, 1)
	stacks(t, "a text that is emptied, and comes again", []string{"a\n", "", "a\n"}, 2)
	stacks(t, "0d is a byte of its line", []string{"a\nb\n", "a\r\nb\n"}, 1, 0)
	stacks(t, "lines are held against each other whole", []string{"ab\ncd\n", "a\nb\ncd\n", "ab\ncd\n"}, 2, 0)
}

func TestLinesAreAnyBytes(t *testing.T) {
	stacks(t, "bytes that are no rune", []string{"\xff\n\u00e9\n\x00", "\xfe\n\u00e9\n\x00", "\xfe\ne\u0301\n\x00"}, 1, 2, 0)
	brings(t, "lines that no text is split into", [][]string{{"", "a\nb\n", "a"}, {"a", "", "a\nb\n", "\n"}, {"a\n", "", "a\nb\n", "\n", ""}}, []int{2, 0, 0, 1, 2})
	long := strings.Repeat("x", 100_000)
	stacks(t, "long lines", []string{long + "\n" + long, long + "y\n" + long, long + "y\n" + long + "z"}, 1, 2)
}

// many answers n lines, each unlike the other ones.
func many(n int, name string) []string {
	l := make([]string, n)
	for i := range l {
		l[i] = fmt.Sprint(name, i)
	}
	return l
}

func TestVersionsThatAreTooLongForAScript(t *testing.T) {
	head, tail := many(500, "head "), many(api.MaxLines, "tail ")
	just := tail[:api.MaxLines-1]
	with := func(line string, tail []string) []string {
		return slices.Concat(head, []string{line}, tail)
	}
	at := func(line, rest, n int) []int {
		return slices.Concat(slices.Repeat([]int{0}, len(head)), []int{line}, slices.Repeat([]int{rest}, n))
	}
	brings(t, "MaxLines behind the head", [][]string{with("x", just), with("y", just)}, at(1, 0, len(just)))
	brings(t, "more than MaxLines behind the head: all of them are brought", [][]string{with("x", tail), with("y", tail)}, at(1, 1, len(tail)))
	brings(t, "more than MaxLines, then less", [][]string{with("x", tail), with("y", tail), with("y", just)}, at(1, 1, len(just)))
	brings(t, "more than MaxLines in the elder one alone", [][]string{with("x", tail), with("y", tail[:9]), with("z", tail[:9])}, at(2, 1, 9))
	brings(t, "more than MaxLines in the later one alone", [][]string{with("x", tail[:9]), with("y", tail)}, at(1, 1, len(tail)))
	brings(t, "more than MaxLines, alike", [][]string{with("x", tail), with("x", tail), with("x", tail)}, at(0, 0, len(tail)))
	brings(t, "more than MaxLines behind no line", [][]string{nil, with("x", tail)}, slices.Repeat([]int{1}, 501+len(tail)))
}

func TestManyVersions(t *testing.T) {
	const n = 70_000 // more than 16 bits hold
	l := make([][]string, n)
	for i := range l {
		l[i] = []string{"kept", fmt.Sprint(i - 1), fmt.Sprint(i)}
	}
	for _, last := range []int{1, 2, 127, 128, 255, 256, 257, 32_768, 65_535, 65_536, 65_537, n - 1} {
		brings(t, fmt.Sprintf("%d versions", last+1), l[:last+1], []int{0, last - 1, last})
	}
}

func TestManyLines(t *testing.T) {
	const n = 100_000
	all := many(n, "line ")
	// What each version adds stands behind all that both begin with.
	brings(t, "many lines", [][]string{all[:1], all[:n/2], all[:n]}, slices.Concat([]int{0}, slices.Repeat([]int{1}, n/2-1), slices.Repeat([]int{2}, n/2)))
	stacks(t, "many lines", []string{strings.Repeat("\n", n), strings.Repeat("\n", n) + "x"}, append(slices.Repeat([]int{0}, n), 1)...)
}

// brought answers, in the document's words, where the line i of the version at comes from.
func brought(l [][]string, at, i int) int {
	if at == 0 {
		return 0
	}
	was, is := 0, 0
	for _, e := range diff.Script(l[at-1], l[at]) {
		if e.Kind != api.Delete && is == i {
			if e.Kind == api.Insert {
				return at
			}
			return brought(l, at-1, was)
		}
		if e.Kind != api.Insert {
			was++
		}
		if e.Kind != api.Delete {
			is++
		}
	}
	return -1
}

// holds fails unless all that is told of l, of which each line ends with its newline, is as the document says.
func holds(t *testing.T, what string, l [][]string) {
	t.Helper()
	var want []int
	var texts []string
	if len(l) > 0 {
		for i := range l[len(l)-1] {
			want = append(want, brought(l, len(l)-1, i))
		}
	}
	for _, version := range l {
		texts = append(texts, lines.Join(version))
	}
	brings(t, what, l, want)
	stacks(t, what, texts, want...)
	if len(l) == 0 {
		return
	}
	last := l[len(l)-1]
	brings(t, "What follows: a version that changes nothing behind "+what, append(slices.Clone(l), last), want)
	brings(t, "one without lines ahead of "+what, append([][]string{nil}, l...), shifted(want))
}

// shifted answers each of l, one greater.
func shifted(l []int) []int {
	var s []int
	for _, n := range l {
		s = append(s, n+1)
	}
	return s
}

// all answers all lists of up to n of these.
func all[T any](n int, from []T) [][]T {
	l := [][]T{nil}
	for at := 0; len(l[at]) < n; at++ {
		for _, x := range from {
			l = append(l, append(slices.Clone(l[at]), x))
		}
	}
	return l
}

func TestAllShortVersions(t *testing.T) {
	for _, c := range []struct {
		versions, lines int
		from            []string
	}{
		{3, 3, []string{"a\n", "b\n"}},
		{2, 3, []string{"a\n", "b\n", "c\n"}},
		{5, 1, []string{"a\n", "b\n"}},
		{2, 5, []string{"a\n", "b\n"}},
	} {
		for _, l := range all(c.versions, all(c.lines, c.from)) {
			holds(t, "short versions", l)
		}
	}
}

// chance answers numbers that hang on the state alone, each below what it is asked for.
func chance(state uint32) func(below int) int {
	return func(below int) int {
		state = state*1_664_525 + 1_013_904_223
		return int(state>>8) % below
	}
}

// history answers n versions, each with a few changes to the one ahead of it.
func history(state uint32, n, letters int) [][]string {
	next := chance(state)
	line := func() string { return string([]byte{byte('a' + next(letters)), '\n'}) }
	var l [][]string
	var now []string
	for range n {
		now = slices.Clone(now)
		for range next(6) {
			now = slices.Insert(now, next(len(now)+1), line())
		}
		for range min(next(4), len(now)) {
			i := next(len(now))
			now = slices.Delete(now, i, i+1)
		}
		l = append(l, now)
	}
	return l
}

func TestHistories(t *testing.T) {
	for state := uint32(1); state < 60; state++ {
		holds(t, "a history", history(state, 1+int(state), 2+int(state%24)))
	}
}

func TestWhatIsHandedInIsNotChanged(t *testing.T) {
	room := [][]string{
		[]string{"a\n", "b\n", "behind"}[:2:3],
		[]string{"a\n", "x\n", "b\n", "behind"}[:3:4],
		{"behind the end"},
	}
	texts := []string{"a\nb\n", "a\nx\nb\n", "behind the end"}
	for range 2 {
		brings(t, "with room behind, which plays no part", room[:2], []int{0, 1, 0})
		stacks(t, "with room behind, which plays no part", texts[:2], 0, 1, 0)
	}
	for i, want := range [][]string{{"a\n", "b\n", "behind"}, {"a\n", "x\n", "b\n", "behind"}, {"behind the end"}} {
		if got := room[i][:cap(room[i])]; !slices.Equal(got, want) {
			t.Errorf("R3: Lines changes the version %d, or the room behind it: %q", i, got)
		}
	}
	if !slices.Equal(texts, []string{"a\nb\n", "a\nx\nb\n", "behind the end"}) {
		t.Errorf("R3: Stack changes what it is given, or the room behind it: %q", texts)
	}
}

func TestWhatIsHandedOutIsNew(t *testing.T) {
	l := versions("ac abc abcd")
	one, other := blame.Lines(l), blame.Lines(l)
	stack := blame.Stack([]string{"a\n", "a\nb\n"})
	for _, answer := range [][]int{one, stack} {
		for i := range answer[:cap(answer)] {
			answer[:cap(answer)][i] = -7
		}
	}
	if want := places("0102"); !slices.Equal(other, want) {
		t.Errorf("R3: what is written into an answer is seen in another one: %v; want %v", other, want)
	}
	clear(l[2])
	clear(l)
	if want := places("0102"); !slices.Equal(other, want) {
		t.Errorf("R3: what is written into versions is seen in what was answered of them: %v; want %v", other, want)
	}
	brings(t, "R3: behind an answer that was written into", versions("ac abc abcd"), places("0102"))
	stacks(t, "R3: behind an answer that was written into", []string{"a\n", "a\nb\n"}, 0, 1)
}

func TestAnAnswerHangsOnNoCallAheadOfIt(t *testing.T) {
	for range 2 {
		brings(t, "behind other calls", versions("a ab"), places("01"))
		brings(t, "behind other calls", nil, nil)
		brings(t, "behind other calls", versions("ab b ba b ab"), places("40"))
		stacks(t, "behind other calls", []string{"a\n", "", "a\n"}, 2)
		stacks(t, "behind other calls", nil)
	}
}
