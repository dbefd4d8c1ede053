package hunk_test

import (
	"fmt"
	"slices"
	"strings"
	"testing"

	"rick/api"
	"rick/diff"
	"rick/hunk"
)

// far is the last place that a hunk may have.
const far = 1<<31 - 1

// list answers the bytes of s, each as a line.
func list(s string) []string {
	var l []string
	for i := range len(s) {
		l = append(l, s[i:i+1])
	}
	return l
}

// edits answers the script that is written as a sign and a line for each edit; the sign ? is no kind.
func edits(s string) []api.Edit {
	var l []api.Edit
	for i := 0; i < len(s); i += 2 {
		kind := strings.IndexByte("=-+", s[i]) + api.Keep
		l = append(l, api.Edit{Kind: kind, Line: s[i+1 : i+2]})
	}
	return l
}

// h answers a hunk of which each byte of old and now is a line.
func h(at int, old, now string) api.Hunk {
	return api.Hunk{At: at, Old: list(old), New: list(now)}
}

// same tells whether two lists of hunks are the same.
func same(a, b []api.Hunk) bool {
	return slices.EqualFunc(a, b, func(x, y api.Hunk) bool {
		return x.At == y.At && slices.Equal(x.Old, y.Old) && slices.Equal(x.New, y.New)
	})
}

// copied answers l in memory of its own.
func copied(l []api.Hunk) []api.Hunk {
	var c []api.Hunk
	for _, x := range l {
		c = append(c, api.Hunk{At: x.At, Old: slices.Clone(x.Old), New: slices.Clone(x.New)})
	}
	return c
}

// splits fails unless Of tells just these hunks of l.
func splits(t *testing.T, what string, l []api.Edit, want []api.Hunk) {
	t.Helper()
	if got := hunk.Of(l); !same(got, want) {
		t.Errorf("P7.1: Of, %s: of %.300v: %.300v; want %.300v", what, l, got, want)
	}
}

// comes fails unless Apply of l to a answers that.
func comes(t *testing.T, what string, a []string, l []api.Hunk, want []string, e api.Errno) {
	t.Helper()
	got, f := hunk.Apply(a, l)
	if !slices.Equal(got, want) || f != e {
		t.Errorf("P7.2: Apply, %s: of %.200v to %.60q: %.60q, error %d; want %.60q, %d", what, l, a, got, f, want, e)
	}
}

// turns fails unless Invert of l answers that.
func turns(t *testing.T, what string, l, want []api.Hunk) {
	t.Helper()
	if got := hunk.Invert(l); !same(got, want) {
		t.Errorf("P7.2: Invert, %s: of %.200v: %.200v; want %.200v", what, l, got, want)
	}
}

// returns fails unless what l leads to from a is led back by l inverted.
func returns(t *testing.T, what string, a []string, l []api.Hunk) {
	t.Helper()
	b, e := hunk.Apply(a, l)
	back, f := hunk.Apply(b, hunk.Invert(l))
	if e != api.OK || f != api.OK || !slices.Equal(back, a) {
		t.Errorf("What follows: %s: %.200v applied to %.60q, and applied inverted: %.60q, errors %d, %d", what, l, a, back, e, f)
	}
	turns(t, what+", inverted twice", hunk.Invert(l), l)
}

func TestOf(t *testing.T) {
	for _, c := range []struct {
		what, l string
		want    []api.Hunk
	}{
		{"no edit", "", nil},
		{"all is kept", "=a=b", nil},
		{"a line is deleted", "-a", []api.Hunk{h(0, "a", "")}},
		{"a line is inserted", "+a", []api.Hunk{h(0, "", "a")}},
		{"at the end", "=a=b+c", []api.Hunk{h(2, "", "c")}},
		{"what is deleted counts for the places behind it", "-a-b=c-d", []api.Hunk{h(0, "ab", ""), h(3, "d", "")}},
		{"what is inserted does not count for them", "+a+b=c-d", []api.Hunk{h(0, "", "ab"), h(1, "d", "")}},
		{"both", "=a-b+x+y=c=d-e+z=f", []api.Hunk{h(1, "b", "xy"), h(4, "e", "z")}},
		{"inserted ahead of what is deleted", "=a+x-b=c", []api.Hunk{h(1, "b", "x")}},
		{"by turns", "+x-a+y-b-c+z=d", []api.Hunk{h(0, "abc", "xyz")}},
		{"one line is kept between", "-a=b-c=d+e", []api.Hunk{h(0, "a", ""), h(2, "c", ""), h(4, "", "e")}},
		{"what is deleted is inserted again", "-a+a", []api.Hunk{h(0, "a", "a")}},
		{"an edit of another kind stands in a run", "-a?b+c=d", []api.Hunk{h(0, "a", "c")}},
		{"an edit of another kind begins a run, and ends it", "=a?b+c?d=e-f", []api.Hunk{h(1, "", "c"), h(2, "f", "")}},
		{"an edit of another kind alone is a run, that changes nothing", "=a?b=c-d", []api.Hunk{h(1, "", ""), h(2, "d", "")}},
	} {
		splits(t, c.what, edits(c.l), c.want)
	}
	splits(t, "an empty list", []api.Edit{}, nil)
}

func TestOfTakesOtherKindsForNone(t *testing.T) {
	for _, kind := range []int{0, 4, -1, -api.Keep, -api.Delete, 1<<8 + api.Keep, 1<<16 + api.Delete, 1<<32 + api.Insert, 1<<62 + api.Keep} {
		l := []api.Edit{{Kind: api.Keep, Line: "a"}, {Kind: api.Insert, Line: "x"}, {Kind: kind, Line: "y"}, {Kind: api.Delete, Line: "b"}, {Kind: api.Keep, Line: "c"}, {Kind: api.Delete, Line: "d"}}
		splits(t, fmt.Sprint("an edit of the kind ", kind), l, []api.Hunk{h(1, "b", "x"), h(3, "d", "")})
	}
}

// runs answers the hunks of a script by its signs: what stands between those of lines that are kept.
func runs(signs string) []api.Hunk {
	var l []api.Hunk
	at, n := 0, 0
	for _, run := range strings.Split(signs, "=") {
		if run != "" {
			x := api.Hunk{At: at}
			for i := range len(run) {
				if run[i] == '-' {
					x.Old = append(x.Old, fmt.Sprint(n+i))
				} else {
					x.New = append(x.New, fmt.Sprint(n+i))
				}
			}
			l = append(l, x)
		}
		at += strings.Count(run, "-") + 1
		n += len(run) + 1
	}
	return l
}

// numbered answers the script of these signs: the line of each edit is its number.
func numbered(signs string) []api.Edit {
	var l []api.Edit
	for i := range len(signs) {
		l = append(l, api.Edit{Kind: strings.IndexByte("=-+", signs[i]) + api.Keep, Line: fmt.Sprint(i)})
	}
	return l
}

// texts answers all texts of up to n bytes that are made of these.
func texts(n int, from string) []string {
	all := []string{""}
	for at := 0; len(all[at]) < n; at++ {
		for i := range len(from) {
			all = append(all, all[at]+from[i:i+1])
		}
	}
	return all
}

// signsOf answers many signs that hang on the state alone; the more of kept ones the higher keep is.
func signsOf(state uint32, n, keep int) string {
	b := make([]byte, n)
	for i := range b {
		state = state*1_664_525 + 1_013_904_223
		b[i] = "-+="[min(2, int(state>>16)%(2+keep))]
	}
	return string(b)
}

// holds fails unless all that is told of a script of these signs is as the document says.
func holds(t *testing.T, signs string) {
	t.Helper()
	what := fmt.Sprintf("the signs %.60s", signs)
	script := numbered(signs)
	l := hunk.Of(script)
	splits(t, what, script, runs(signs))
	if !hunk.Right(l) {
		t.Errorf("P7.1: Right of %.200v, as Of answers it: false", l)
	}
	a, b := diff.Old(script), diff.New(script)
	comes(t, what, a, l, b, api.OK)
	returns(t, what, a, l)
	// With what is deleted and inserted exchanged a script leads back.
	other := slices.Clone(script)
	for i, e := range other {
		if e.Kind != api.Keep {
			other[i].Kind = api.Delete + api.Insert - e.Kind
		}
	}
	turns(t, what, l, hunk.Of(other))
}

func TestAllShortScripts(t *testing.T) {
	for _, signs := range texts(8, "=-+") {
		holds(t, signs)
	}
}

func TestLongScripts(t *testing.T) {
	for state := uint32(1); state < 200; state++ {
		holds(t, signsOf(state, 20+int(state)*7, int(state%30)))
	}
	holds(t, signsOf(7, 50_000, 3))
	holds(t, strings.Repeat("-", 3_000)+strings.Repeat("+", 5_000)+strings.Repeat("=", 4_000)+"+-")
}

func TestRight(t *testing.T) {
	for _, c := range []struct {
		what string
		l    []api.Hunk
		want bool
	}{
		{"no hunk", nil, true},
		{"an empty list", []api.Hunk{}, true},
		{"only Old", []api.Hunk{h(0, "a", "")}, true},
		{"only New", []api.Hunk{h(0, "", "a")}, true},
		{"the last place", []api.Hunk{h(far, "", "a")}, true},
		{"the last place, with an Old", []api.Hunk{h(far, "a", "")}, true},
		{"the last place, twice", []api.Hunk{h(far, "", "a"), h(far, "", "b")}, true},
		{"the last place, behind its Old", []api.Hunk{h(far-2, "ab", ""), h(far, "", "b")}, true},
		{"the same place, behind no Old", []api.Hunk{h(5, "", "a"), h(5, "", "b"), h(5, "c", "")}, true},
		{"just behind an Old", []api.Hunk{h(5, "ab", "xyz"), h(7, "c", "")}, true},
		{"New counts for no place", []api.Hunk{h(0, "", "abcdef"), h(0, "", "x"), h(1, "", "y")}, true},
		{"far behind", []api.Hunk{h(5, "ab", ""), h(1_000_000, "", "x")}, true},
		{"lines that are empty", []api.Hunk{{At: 0, Old: []string{""}}, {At: 1, New: []string{""}}}, true},
		{"what stands there instead is alike", []api.Hunk{h(0, "a", "a")}, true},
		{"neither Old nor New", []api.Hunk{h(0, "", "")}, false},
		{"neither Old nor New, in empty lists", []api.Hunk{{At: 3, Old: []string{}, New: []string{}}}, false},
		{"neither Old nor New, behind another one", []api.Hunk{h(0, "a", "b"), h(3, "", "")}, false},
		{"neither Old nor New, ahead of another one", []api.Hunk{h(0, "", ""), h(3, "a", "")}, false},
		{"below 0", []api.Hunk{h(-1, "", "a")}, false},
		{"far below 0", []api.Hunk{h(-1<<63, "a", "")}, false},
		{"below 0, and above that", []api.Hunk{h(-2, "a", ""), h(0, "a", "")}, false},
		{"below 0, behind another one", []api.Hunk{h(0, "", "a"), h(-1, "", "a")}, false},
		{"behind the last place", []api.Hunk{h(far+1, "", "a")}, false},
		{"behind the last place, as an Old ends there", []api.Hunk{h(far, "a", ""), h(far+1, "", "b")}, false},
		{"far behind the last place", []api.Hunk{h(1<<63-1, "a", "")}, false},
		{"far behind the last place, twice", []api.Hunk{h(1<<63-1, "ab", ""), h(-1<<63, "a", "")}, false},
		{"a place that is 0 in 32 bits", []api.Hunk{h(1<<32, "", "a")}, false},
		{"within an Old", []api.Hunk{h(5, "ab", ""), h(6, "", "c")}, false},
		{"where an Old begins", []api.Hunk{h(5, "a", ""), h(5, "", "c")}, false},
		{"ahead of another one", []api.Hunk{h(5, "", "a"), h(4, "", "b")}, false},
		{"within the last but one's Old", []api.Hunk{h(0, "", "a"), h(5, "abc", ""), h(8, "", "x"), h(7, "", "b")}, false},
	} {
		if got := hunk.Right(c.l); got != c.want {
			t.Errorf("P7.1: Right, %s: of %v: %v; want %v", c.what, c.l, got, c.want)
		}
	}
}

func TestWhatIsNotRight(t *testing.T) {
	for _, l := range [][]api.Hunk{
		{h(0, "", "")},
		{h(1, "b", "x"), h(3, "", "")},
		{h(-1, "", "x")},
		{h(far+1, "", "x")},
		{h(1<<63-1, "ab", "x")},
		{h(-1<<63, "ab", "x")},
		{h(0, "ab", ""), h(1, "b", "")},
		{h(2, "c", ""), h(1, "b", "")},
	} {
		comes(t, "of what is not Right", list("abcd"), l, nil, api.ErrArg)
		turns(t, "of what is not Right", l, nil)
		// An Old that stands elsewhere counts for nothing here (R5).
		comes(t, "R5: of what is not Right, nor stands there", list("abcd"), append([]api.Hunk{h(0, "z", "")}, l...), nil, api.ErrArg)
		comes(t, "R5: of what is not Right, to no line", nil, l, nil, api.ErrArg)
	}
}

func TestApply(t *testing.T) {
	for _, c := range []struct {
		what, a string
		l       []api.Hunk
		want    string
		e       api.Errno
	}{
		{"the document's example", "ab", []api.Hunk{h(1, "b", "c")}, "ac", api.OK},
		{"no hunk", "ab", nil, "ab", api.OK},
		{"no hunk to no line", "", nil, "", api.OK},
		{"inserted into no line", "", []api.Hunk{h(0, "", "ab")}, "ab", api.OK},
		{"all is deleted", "ab", []api.Hunk{h(0, "ab", "")}, "", api.OK},
		{"inserted ahead of all", "ab", []api.Hunk{h(0, "", "x")}, "xab", api.OK},
		{"inserted between", "ab", []api.Hunk{h(1, "", "x")}, "axb", api.OK},
		{"inserted behind all", "ab", []api.Hunk{h(2, "", "x")}, "abx", api.OK},
		{"inserted one place too far", "ab", []api.Hunk{h(3, "", "x")}, "", api.ErrMatch},
		{"inserted at the last place that may be", "ab", []api.Hunk{h(far, "", "x")}, "", api.ErrMatch},
		{"deleted at the last place that may be", "ab", []api.Hunk{h(far, "b", "")}, "", api.ErrMatch},
		{"another line stands there", "ab", []api.Hunk{h(1, "c", "x")}, "", api.ErrMatch},
		{"the line stands elsewhere", "ab", []api.Hunk{h(1, "a", "x")}, "", api.ErrMatch},
		{"the second line of two is another one", "abc", []api.Hunk{h(1, "bd", "x")}, "", api.ErrMatch},
		{"Old goes past the end", "ab", []api.Hunk{h(1, "bc", "x")}, "", api.ErrMatch},
		{"Old stands behind the end", "ab", []api.Hunk{h(2, "c", "x")}, "", api.ErrMatch},
		{"Old to no line", "", []api.Hunk{h(0, "a", "x")}, "", api.ErrMatch},
		{"only the last one does not stand", "abcd", []api.Hunk{h(0, "a", "x"), h(1, "b", "y"), h(3, "c", "")}, "", api.ErrMatch},
		{"only the first one does not stand", "abcd", []api.Hunk{h(0, "b", "x"), h(1, "b", "y"), h(3, "d", "")}, "", api.ErrMatch},
		{"places are those of a", "abcd", []api.Hunk{h(0, "a", "xyz"), h(2, "c", ""), h(3, "d", "w")}, "xyzbw", api.OK},
		{"one just behind the other", "abcd", []api.Hunk{h(0, "a", "x"), h(1, "b", "y"), h(2, "cd", "z")}, "xyz", api.OK},
		{"inserted at one place, one behind the other", "ab", []api.Hunk{h(1, "", "x"), h(1, "", "y"), h(1, "b", "z")}, "axyz", api.OK},
		{"Old stands in a, not in what was inserted", "ab", []api.Hunk{h(0, "a", "b"), h(1, "b", "a")}, "ba", api.OK},
		{"what stands there instead is alike", "ab", []api.Hunk{h(0, "ab", "ab")}, "ab", api.OK},
	} {
		comes(t, c.what, list(c.a), c.l, list(c.want), c.e)
		if c.e == api.OK {
			returns(t, c.what, list(c.a), c.l)
		}
	}
}

func TestLinesAreAnyBytes(t *testing.T) {
	a := []string{"a\n", "", "\xff", "\u00e9", "a"}
	l := []api.Hunk{{At: 1, Old: []string{"", "\xff"}, New: []string{"\x00\n\n"}}, {At: 4, Old: []string{"a"}, New: []string{"", ""}}}
	comes(t, "lines of any bytes", a, l, []string{"a\n", "\x00\n\n", "\u00e9", "", ""}, api.OK)
	returns(t, "lines of any bytes", a, l)
	comes(t, "a line without its newline", a, []api.Hunk{{At: 0, Old: []string{"a"}}}, nil, api.ErrMatch)
	comes(t, "an empty line is no Old that is empty", []string{"a"}, []api.Hunk{{At: 0, Old: []string{""}, New: []string{"b"}}}, nil, api.ErrMatch)
	comes(t, "a rune told otherwise", a, []api.Hunk{{At: 3, Old: []string{"e\u0301"}}}, nil, api.ErrMatch)
}

func TestInvert(t *testing.T) {
	for _, c := range []struct {
		what    string
		l, want []api.Hunk
	}{
		{"no hunk", nil, nil},
		{"an empty list", []api.Hunk{}, nil},
		{"one", []api.Hunk{h(3, "ab", "c")}, []api.Hunk{h(3, "c", "ab")}},
		{"behind more lines", []api.Hunk{h(1, "b", "xyz"), h(3, "d", "w")}, []api.Hunk{h(1, "xyz", "b"), h(5, "w", "d")}},
		{"behind fewer lines", []api.Hunk{h(0, "abc", "x"), h(7, "d", "")}, []api.Hunk{h(0, "x", "abc"), h(5, "", "d")}},
		{"behind as many lines", []api.Hunk{h(0, "ab", "xy"), h(7, "d", "")}, []api.Hunk{h(0, "xy", "ab"), h(7, "", "d")}},
		{"behind all that stands ahead", []api.Hunk{h(0, "", "xyz"), h(2, "cdef", ""), h(6, "", "w"), h(9, "jk", "v"), h(20, "u", "")}, []api.Hunk{h(0, "xyz", ""), h(5, "", "cdef"), h(5, "w", ""), h(9, "v", "jk"), h(19, "", "u")}},
		{"down to the first place", []api.Hunk{h(0, "ab", ""), h(2, "c", "")}, []api.Hunk{h(0, "", "ab"), h(0, "", "c")}},
		{"at the last place that may be", []api.Hunk{h(0, "ab", "x"), h(far, "", "y")}, []api.Hunk{h(0, "x", "ab"), h(far-1, "y", "")}},
		{"up to the last place that may be", []api.Hunk{h(0, "ab", "xyz"), h(far-1, "", "y")}, []api.Hunk{h(0, "xyz", "ab"), h(far, "y", "")}},
	} {
		turns(t, c.what, c.l, c.want)
		turns(t, c.what+", the other way", c.want, c.l)
	}
}

// small answers all hunks with a few places and lines.
func small(places []int, olds, news []string) []api.Hunk {
	var all []api.Hunk
	for _, at := range places {
		for _, old := range olds {
			for _, now := range news {
				all = append(all, h(at, old, now))
			}
		}
	}
	return all
}

// right tells whether l is Right, place by place.
func right(l []api.Hunk) bool {
	taken := map[int]int{} // by the place of each line that is deleted: which hunk does
	for i, x := range l {
		if x.At < 0 || len(x.Old) == 0 && len(x.New) == 0 || i > 0 && x.At < l[i-1].At {
			return false
		}
		if taken[x.At] != 0 {
			return false
		}
		for k := range x.Old {
			taken[x.At+k] = i + 1
		}
	}
	return true
}

// applied answers what a text, each byte of which is a line, comes to: from its end on, so that no place is shifted.
func applied(s string, l []api.Hunk) (string, api.Errno) {
	if !right(l) {
		return "", api.ErrArg
	}
	for _, x := range slices.Backward(l) {
		old := strings.Join(x.Old, "")
		if x.At > len(s) || !strings.HasPrefix(s[x.At:], old) {
			return "", api.ErrMatch
		}
	}
	for _, x := range slices.Backward(l) {
		s = s[:x.At] + strings.Join(x.New, "") + s[x.At+len(x.Old):]
	}
	return s, api.OK
}

// fits fails unless all that is told of l, and of l and s, is as the models say.
func fits(t *testing.T, s string, l []api.Hunk) {
	t.Helper()
	want, e := applied(s, l)
	if got := hunk.Right(l); got != (e != api.ErrArg) {
		t.Errorf("P7.1: Right of %v: %v", l, got)
	}
	comes(t, "few lines", list(s), l, list(want), e)
	switch e {
	case api.OK:
		returns(t, "few lines", list(s), l)
	case api.ErrArg:
		turns(t, "few lines", l, nil)
	}
}

func TestFewLines(t *testing.T) {
	one := small([]int{-1, 0, 1, 2, 3, 4}, []string{"", "a", "b", "ab", "aa"}, []string{"", "x", "ay"})
	for _, s := range []string{"", "a", "ab", "aab", "aaa", "baa"} {
		fits(t, s, nil)
		for _, x := range one {
			fits(t, s, []api.Hunk{x})
			for _, y := range one {
				fits(t, s, []api.Hunk{x, y})
			}
		}
	}
	few := small([]int{0, 1, 2, 3}, []string{"", "a", "ab"}, []string{"", "xy"})
	for _, x := range few {
		for _, y := range few {
			for _, z := range few {
				fits(t, "aab", []api.Hunk{x, y, z})
			}
		}
	}
}

func TestWhatScriptsComeTo(t *testing.T) {
	all := texts(5, "ab")
	for _, a := range all {
		for _, b := range all {
			l := hunk.Of(diff.Script(list(a), list(b)))
			comes(t, "of a script", list(a), l, list(b), api.OK)
			returns(t, "of a script", list(a), l)
		}
	}
	long := make([]string, 3*api.MaxLines)
	for i := range long {
		long[i] = fmt.Sprint("line ", i)
	}
	other := slices.Concat(long[:2], []string{"x"}, long[5:])
	l := hunk.Of(diff.Script(long, other))
	comes(t, "of a script that is too long", long, l, other, api.OK)
	returns(t, "of a script that is too long", long, l)
}

// change writes over all of l, and the room behind its lists' ends.
func change(l []api.Hunk) {
	for _, x := range l {
		clear(x.Old[:cap(x.Old)])
		clear(x.New[:cap(x.New)])
	}
	clear(l[:cap(l)])
}

func TestWhatIsHandedInIsNotChanged(t *testing.T) {
	script := edits("=a-b+x=c-d")
	hunk.Of(script[:3])
	if !slices.Equal(script, edits("=a-b+x=c-d")) {
		t.Errorf("R3: Of changes what it is given, or the room behind it: %v", script)
	}
	room, a := roomy(), list("abcdefg")
	for what, call := range map[string]func(){
		"Apply":                     func() { hunk.Apply(a[:5], room[:2]) },
		"Apply of what is refused":  func() { hunk.Apply(a[:1], room[:2]) },
		"Apply of no hunk":          func() { hunk.Apply(a[:1], room[:0]) },
		"Invert":                    func() { hunk.Invert(room[:2]) },
		"Right":                     func() { hunk.Right(room[:2]) },
		"Apply of what isn't Right": func() { hunk.Apply(a[:5], []api.Hunk{room[1], room[0]}) },
	} {
		call()
		for i, x := range roomy() {
			if x.At != room[i].At || !slices.Equal(x.Old[:cap(x.Old)], room[i].Old[:cap(room[i].Old)]) || !slices.Equal(x.New[:cap(x.New)], room[i].New[:cap(room[i].New)]) {
				t.Errorf("R3: %s changes the hunk %d, or the room behind its lists: %v", what, i, room[i])
			}
		}
		if !slices.Equal(a, list("abcdefg")) {
			t.Errorf("R3: %s changes the lines that it is given: %q", what, a)
		}
	}
}

// roomy answers three hunks with room behind the ends of their lists.
func roomy() []api.Hunk {
	return []api.Hunk{
		{At: 1, Old: []string{"b", "behind"}[:1:2], New: []string{"x", "y", "behind"}[:2:3]},
		{At: 3, Old: []string{"d", "e", "behind"}[:2:3], New: []string{"z", "behind"}[:1:2]},
		{At: 9, Old: []string{"q", "behind"}[:1:2], New: []string{"r", "behind"}[:1:2]},
	}
}

func TestWhatStandsBehindAListsEndPlaysNoPart(t *testing.T) {
	splits(t, "with room behind", edits("=a-b+x=c-d")[:3], []api.Hunk{h(1, "b", "x")})
	room, a := roomy(), list("abcdefg")
	comes(t, "with room behind", a[:5], room[:2], list("axycz"), api.OK)
	comes(t, "with room behind, in which Old goes on", a[:4], room[:2], nil, api.ErrMatch)
	turns(t, "with room behind", room[:2], []api.Hunk{h(1, "xy", "b"), h(4, "z", "de")})
	if !hunk.Right(room[:2]) || hunk.Right([]api.Hunk{{At: 0, Old: []string{"a"}[:0]}}) {
		t.Error("P7.1: Right, with room behind: it plays a part")
	}
}

func TestWhatIsHandedOutIsNew(t *testing.T) {
	script := edits("=a-b+x=c-d+y+z")
	want := []api.Hunk{h(1, "b", "x"), h(3, "d", "yz")}
	one, other := hunk.Of(script), hunk.Of(script)
	change(one)
	clear(script)
	if !same(other, want) {
		t.Errorf("R3: what is written into hunks, or into their script, is seen in other ones: %v", other)
	}
	back, again := hunk.Invert(other), hunk.Invert(other)
	change(back)
	if !same(other, want) || !same(again, []api.Hunk{h(1, "x", "b"), h(3, "yz", "d")}) {
		t.Errorf("R3: what is written into hunks that were inverted is seen in others: %v, %v", other, again)
	}
	change(other)
	if !same(again, []api.Hunk{h(1, "x", "b"), h(3, "yz", "d")}) {
		t.Errorf("R3: what is written into hunks is seen in what they were inverted to: %v", again)
	}
}

func TestNoTwoListsOfOneAnswerShareMemory(t *testing.T) {
	for what, l := range map[string][]api.Hunk{
		"Of":     hunk.Of(edits("-a+b=c-d+e=f+g-h")),
		"Invert": hunk.Invert([]api.Hunk{h(0, "a", "b"), h(2, "d", "e"), h(4, "h", "g")}),
	} {
		for i := range l {
			for k, part := range [][]string{l[i].Old, l[i].New} {
				rest := copied(l)
				_ = append(part, "over", "over")
				if !same(l, rest) {
					t.Errorf("R3: %s: what is written behind the list %d of the hunk %d is seen in another one: %v", what, k, i, l)
				}
			}
		}
	}
}

func TestWhatIsAppliedIsNew(t *testing.T) {
	for _, l := range [][]api.Hunk{nil, {h(0, "", "x")}, {h(0, "abc", "xyz")}, {h(3, "", "x")}} {
		a, kept := list("abc"), copied(l)
		one, _ := hunk.Apply(a, l)
		other, _ := hunk.Apply(a, l)
		want := slices.Clone(other)
		clear(one[:cap(one)])
		if !slices.Equal(a, list("abc")) || !same(l, kept) || !slices.Equal(other, want) {
			t.Errorf("R3: what is written into what Apply answers is seen elsewhere: %q, %v, %q", a, l, other)
		}
		clear(a)
		change(l)
		if !slices.Equal(other, want) {
			t.Errorf("R3: what is written into what Apply was given is seen in what it answered: %q; want %q", other, want)
		}
	}
}

func TestAnAnswerHangsOnNoCallAheadOfIt(t *testing.T) {
	for range 2 {
		splits(t, "behind other calls", edits("-a=b+c"), []api.Hunk{h(0, "a", ""), h(2, "", "c")})
		comes(t, "behind other calls", list("ab"), []api.Hunk{h(0, "a", ""), h(2, "", "c")}, list("bc"), api.OK)
		comes(t, "behind other calls", list("ab"), []api.Hunk{h(-1, "a", "")}, nil, api.ErrArg)
		comes(t, "behind other calls", nil, nil, nil, api.OK)
		turns(t, "behind other calls", []api.Hunk{h(0, "a", ""), h(2, "", "c")}, []api.Hunk{h(0, "", "a"), h(1, "c", "")})
		splits(t, "behind other calls", nil, nil)
	}
}
