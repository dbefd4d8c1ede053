package diff_test

import (
	"fmt"
	"slices"
	"strings"
	"testing"

	"rick/api"
	"rick/diff"
)

// list answers the bytes of s, each as a line.
func list(s string) []string {
	var l []string
	for i := range len(s) {
		l = append(l, s[i:i+1])
	}
	return l
}

// edits answers the script that is written as a sign and a line for each edit.
func edits(s string) []api.Edit {
	var l []api.Edit
	for i := 0; i < len(s); i += 2 {
		l = append(l, api.Edit{Kind: strings.IndexByte("=-+", s[i]) + api.Keep, Line: s[i+1 : i+2]})
	}
	return l
}

// leads fails unless the script from a to b is want, and all that is told of both fits it.
func leads(t *testing.T, what string, a, b []string, want []api.Edit) {
	t.Helper()
	got := diff.Script(a, b)
	if !slices.Equal(got, want) {
		t.Errorf("P6.1: Script, %s: from %.60q to %.60q: %.200v; want %.200v", what, a, b, got, want)
	}
	n := 0
	for _, e := range want {
		if e.Kind != api.Keep {
			n++
		}
	}
	if d := diff.Distance(a, b); d != n {
		t.Errorf("P6.1: Distance, %s: from %.60q to %.60q: %d; want %d", what, a, b, d, n)
	}
	if from := diff.Old(got); !slices.Equal(from, a) {
		t.Errorf("P6.1: Old, %s: of the script from %.60q to %.60q: %.60q", what, a, b, from)
	}
	if to := diff.New(got); !slices.Equal(to, b) {
		t.Errorf("P6.1: New, %s: of the script from %.60q to %.60q: %.60q", what, a, b, to)
	}
}

// shares fails unless a and b have n lines in common.
func shares(t *testing.T, what string, a, b []string, n int) {
	t.Helper()
	if got := diff.Common(a, b); got != n {
		t.Errorf("P6.1: Common, %s: of %.60q and %.60q: %d; want %d", what, a, b, got, n)
	}
}

func TestScript(t *testing.T) {
	for _, c := range []struct{ what, a, b, want string }{
		{"the document's example", "ab", "bc", "-a=b+c"},
		{"no line", "", "", ""},
		{"from no line", "", "ab", "+a+b"},
		{"to no line", "ab", "", "-a-b"},
		{"what is alike", "abc", "abc", "=a=b=c"},
		{"nothing in common", "abc", "xyz", "-a-b-c+x+y+z"},
		{"the first line", "abc", "xbc", "-a+x=b=c"},
		{"the last line", "abc", "abx", "=a=b-c+x"},
		{"a line between", "abc", "axc", "=a-b+x=c"},
		{"a line more", "ac", "abc", "=a+b=c"},
		{"a line less", "abc", "ac", "=a-b=c"},
		{"as much in common behind a's line as behind b's", "ab", "ba", "-a=b+a"},
		{"as much in common behind a's line as behind b's, the other way", "ba", "ab", "-b=a+b"},
		{"less in common behind a's line", "abcd", "dabc", "+d=a=b=c-d"},
		{"more in common behind a's line", "dabc", "abcd", "-d=a=b=c+d"},
		{"what both stand at is kept, though it could be later", "xa", "xxa", "=x+x=a"},
		{"the first of lines that are alike is kept", "aaa", "a", "=a-a-a"},
		{"the first of lines that are alike is kept, the other way", "a", "aaa", "=a+a+a"},
		{"the ends that are alike play their part, too", "xa", "yaa", "-x+y=a+a"},
		{"much of all", "abcabba", "cbabac", "-a-b=c-a=b+a=b=a+c"},
	} {
		leads(t, c.what, list(c.a), list(c.b), edits(c.want))
	}
}

func TestCommon(t *testing.T) {
	for _, c := range []struct {
		a, b string
		want int
	}{
		{"", "", 0}, {"", "ab", 0}, {"a", "b", 0}, {"a", "a", 1}, {"ab", "bc", 1}, {"ab", "ba", 1}, {"abc", "abc", 3},
		{"aaa", "a", 1}, {"aaa", "aa", 2}, {"xax", "xx", 2}, {"axb", "ayb", 2}, {"abcabba", "cbabac", 4}, {"abcd", "dabc", 3},
		{"abcdef", "fedcba", 1}, {"abab", "baba", 3}, {"hxaybzt", "hpaqbrt", 4},
	} {
		shares(t, "a row", list(c.a), list(c.b), c.want)
		shares(t, "a row, the other way", list(c.b), list(c.a), c.want)
	}
}

func TestLinesAreAnyBytes(t *testing.T) {
	a := []string{"", "a\n", "a", "\xff", "\u00e9", "long " + strings.Repeat("x", 1_000)}
	b := []string{"a\n", "", "A", "\xfe", "e\u0301", "long " + strings.Repeat("x", 1_000)}
	leads(t, "lines of any bytes", a, b, []api.Edit{
		{Kind: api.Delete, Line: ""}, {Kind: api.Keep, Line: "a\n"}, {Kind: api.Delete, Line: "a"}, {Kind: api.Delete, Line: "\xff"}, {Kind: api.Delete, Line: "\u00e9"},
		{Kind: api.Insert, Line: ""}, {Kind: api.Insert, Line: "A"}, {Kind: api.Insert, Line: "\xfe"}, {Kind: api.Insert, Line: "e\u0301"}, {Kind: api.Keep, Line: a[5]},
	})
	shares(t, "lines of any bytes", a, b, 2)
}

// texts answers all texts of up to n bytes that are made of these.
func texts(n int, from string) []string {
	all := []string{""}
	for at := 0; len(all[at]) < n; at++ {
		for i := range len(from) {
			all = append(all, all[at]+from[i:i+1])
		}
	}
	return all
}

// parts answers each text that is left of s when bytes of it are taken out.
func parts(s string) map[string]bool {
	all := map[string]bool{}
	for set := range 1 << len(s) {
		left := ""
		for i := range len(s) {
			if set>>i&1 == 1 {
				left += s[i : i+1]
			}
		}
		all[left] = true
	}
	return all
}

// model knows what each two of some texts have in common: those of which all rests are there, too.
type model map[[2]string]int

func modelOf(all []string) model {
	of := map[string]map[string]bool{}
	for _, s := range all {
		of[s] = parts(s)
	}
	m := model{}
	for _, a := range all {
		for _, b := range all {
			n := 0
			for s := range of[a] {
				if len(s) > n && of[b][s] {
					n = len(s)
				}
			}
			m[[2]string{a, b}] = n
		}
	}
	return m
}

// script answers the script from a to b in the document's words.
func (m model) script(a, b string) string {
	switch {
	case a == "" && b == "":
		return ""
	case a != "" && b != "" && a[0] == b[0]:
		return "=" + a[:1] + m.script(a[1:], b[1:])
	case b == "":
		return "-" + a[:1] + m.script(a[1:], b)
	case a == "":
		return "+" + b[:1] + m.script(a, b[1:])
	case m[[2]string{a[1:], b}] >= m[[2]string{a, b[1:]}]:
		return "-" + a[:1] + m.script(a[1:], b)
	}
	return "+" + b[:1] + m.script(a, b[1:])
}

func TestAllShortLists(t *testing.T) {
	for _, all := range [][]string{texts(6, "ab"), texts(4, "abc"), texts(3, "abcd")} {
		m := modelOf(all)
		for _, a := range all {
			for _, b := range all {
				shares(t, "short lists", list(a), list(b), m[[2]string{a, b}])
				leads(t, "short lists", list(a), list(b), edits(m.script(a, b)))
			}
		}
	}
}

// shortest answers how few lines are to be deleted and inserted between a and b, by the ways there are.
func shortest(a, b string) int {
	seen := map[[2]string]bool{}
	at := [][2]string{{a, b}}
	for n := 0; ; n++ {
		var next [][2]string
		for len(at) > 0 {
			p := at[0]
			at = at[1:]
			if p[0] == "" && p[1] == "" {
				return n
			}
			if seen[p] {
				continue
			}
			seen[p] = true
			if p[0] != "" && p[1] != "" && p[0][0] == p[1][0] {
				at = append(at, [2]string{p[0][1:], p[1][1:]})
			}
			if p[0] != "" {
				next = append(next, [2]string{p[0][1:], p[1]})
			}
			if p[1] != "" {
				next = append(next, [2]string{p[0], p[1][1:]})
			}
		}
		at = next
	}
}

func TestNoShorterScriptLeadsThere(t *testing.T) {
	all := texts(5, "ab")
	for _, a := range all {
		for _, b := range all {
			if got, want := diff.Distance(list(a), list(b)), shortest(a, b); got != want {
				t.Errorf("What follows: from %q to %q: %d edits that are no Keep; want %d", a, b, got, want)
			}
		}
	}
	for state := uint32(1); state < 200; state++ {
		a, b := random(state, 40, 3), random(state*7, 40, 3)
		if got, want := diff.Distance(list(a), list(b)), shortest(a, b); got != want {
			t.Errorf("What follows: from %q to %q: %d edits that are no Keep; want %d", a, b, got, want)
		}
	}
}

// random answers a text of up to n bytes, of so many letters, that hangs on the state alone.
func random(state uint32, n, letters int) string {
	next := func(below int) int {
		state = state*1_664_525 + 1_013_904_223
		return int(state>>8) % below
	}
	b := make([]byte, next(n+1))
	for i := range b {
		b[i] = byte('a' + next(letters))
	}
	return string(b)
}

// restsOf answers what each two rests of a and b have in common, counted from the ends.
func restsOf(a, b string) model {
	m := model{}
	for i := len(a); i >= 0; i-- {
		for j := len(b); j >= 0; j-- {
			n := 0
			if i < len(a) {
				n = max(n, m[[2]string{a[i+1:], b[j:]}])
			}
			if j < len(b) {
				n = max(n, m[[2]string{a[i:], b[j+1:]}])
			}
			if i < len(a) && j < len(b) && a[i] == b[j] {
				n = max(n, 1+m[[2]string{a[i+1:], b[j+1:]}])
			}
			m[[2]string{a[i:], b[j:]}] = n
		}
	}
	return m
}

func TestLongerLists(t *testing.T) {
	for state := uint32(1); state < 150; state++ {
		letters := 2 + int(state%9)
		a, b := random(state*3, 70, letters), random(state*5, 70, letters)
		m := restsOf(a, b)
		shares(t, "longer lists", list(a), list(b), m[[2]string{a, b}])
		leads(t, "longer lists", list(a), list(b), edits(m.script(a, b)))
	}
}

// many answers n lines, each unlike the other ones.
func many(n int) []string {
	l := make([]string, n)
	for i := range l {
		l[i] = fmt.Sprint("line ", i)
	}
	return l
}

// all answers an edit of that kind for each line.
func all(kind int, l []string) []api.Edit {
	var s []api.Edit
	for _, line := range l {
		s = append(s, api.Edit{Kind: kind, Line: line})
	}
	return s
}

// changed answers the script that keeps the head, changes a line, and keeps the tail.
func changed(head []string, from, to string, tail []string) []api.Edit {
	return slices.Concat(all(api.Keep, head), all(api.Delete, []string{from}), all(api.Insert, []string{to}), all(api.Keep, tail))
}

func TestListsThatAreJustNotTooLong(t *testing.T) {
	tail := many(api.MaxLines - 1)
	for _, n := range []int{0, 1, 500} {
		head := slices.Repeat([]string{"head"}, n)
		a, b := slices.Concat(head, []string{"x"}, tail), slices.Concat(head, []string{"y"}, tail)
		leads(t, "MaxLines lines behind the head", a, b, changed(head, "x", "y", tail))
		shares(t, "MaxLines lines behind the head", a, b, n+len(tail))
		leads(t, "MaxLines lines behind the head, to less", a, b[:n+1+9], append(changed(head, "x", "y", tail[:9]), all(api.Delete, tail[9:])...))
		leads(t, "MaxLines lines behind the head, from less", a[:n+1+9], b, append(changed(head, "x", "y", tail[:9]), all(api.Insert, tail[9:])...))
	}
}

func TestListsThatAreTooLong(t *testing.T) {
	tail := many(api.MaxLines)
	for _, n := range []int{0, 1, 500} {
		head := slices.Repeat([]string{"head"}, n)
		for _, c := range []struct {
			what string
			a, b []string // behind the head
		}{
			{"both", append([]string{"x"}, tail...), append([]string{"y"}, tail...)},
			{"both, of which the ends alone are alike", append(many(api.MaxLines)[1:], "x", "end"), append(many(api.MaxLines)[2:], "y", "z", "end")},
			{"a", append([]string{"x"}, tail...), tail[3:9]},
			{"b", tail[3:9], append([]string{"x"}, tail...)},
			{"a, b with MaxLines", append([]string{"x"}, tail...), tail},
			{"b, a with MaxLines", tail, append([]string{"x"}, tail...)},
			{"a, b with one line that ends both", append([]string{"x"}, tail...), tail[api.MaxLines-1:]},
			{"a, b without any", append([]string{"x"}, tail...), nil},
			{"b, a without any", nil, append([]string{"x"}, tail...)},
		} {
			a, b := slices.Concat(head, c.a), slices.Concat(head, c.b)
			want := slices.Concat(all(api.Keep, head), all(api.Delete, c.a), all(api.Insert, c.b))
			leads(t, fmt.Sprint("more than MaxLines lines behind a head of ", n, ": ", c.what), a, b, want)
		}
		both := slices.Concat(head, []string{"x"}, tail)
		leads(t, "more than MaxLines lines that are all alike", both, both, all(api.Keep, both))
	}
}

func TestTheHeadEndsAtTheFirstLineThatIsUnlike(t *testing.T) {
	long := many(2 * api.MaxLines)
	b := slices.Clone(long)
	b[api.MaxLines-1] = "unlike"
	leads(t, "unlike one line too early", long, b, slices.Concat(all(api.Keep, long[:api.MaxLines-1]), all(api.Delete, long[api.MaxLines-1:]), all(api.Insert, b[api.MaxLines-1:])))
	b = slices.Clone(long)
	b[api.MaxLines] = "unlike"
	leads(t, "unlike where MaxLines are left", long, b, changed(long[:api.MaxLines], long[api.MaxLines], "unlike", long[api.MaxLines+1:]))
}

func TestCommonOfLongListsCountsAll(t *testing.T) {
	tail := many(api.MaxLines)
	shares(t, "more than MaxLines lines", append([]string{"x"}, tail...), append([]string{"y"}, tail...), api.MaxLines)
	long := many(3_000)
	shares(t, "long lists", slices.Concat([]string{"x"}, long, []string{"y"}), slices.Concat([]string{"p", "q"}, long, []string{"r"}), 3_000)
	shares(t, "long lists, of which each other line is gone", every(long, 2), every(long, 3), 500)
	longer := many(200_000)
	shares(t, "lists that are alike", longer, slices.Clone(longer), 200_000)
	shares(t, "lists that are alike but for a line", longer, slices.Insert(slices.Clone(longer), 100_000, "x"), 200_000)
	shares(t, "a long list and a short one", append([]string{"x"}, longer...), []string{"line 5", "y", "line 70000", "line 6", "line 199999", "z"}, 3)
	shares(t, "a short list and a long one", []string{"line 5", "y", "line 70000", "line 6", "line 199999", "z"}, append([]string{"x"}, longer...), 3)
}

// every answers each n-th line of l, the first one too.
func every(l []string, n int) []string {
	var s []string
	for i := 0; i < len(l); i += n {
		s = append(s, l[i])
	}
	return s
}

func TestOldAndNew(t *testing.T) {
	for _, c := range []struct {
		l        []api.Edit
		from, to []string
	}{
		{nil, nil, nil},
		{[]api.Edit{}, nil, nil},
		{edits("=a-b+c=d"), list("abd"), list("acd")},
		{edits("+a-b+a"), list("b"), list("aa")},
		{edits("-a-b"), list("ab"), nil},
		{edits("+a+b"), nil, list("ab")},
		{[]api.Edit{{Kind: api.Keep}, {Kind: api.Delete}, {Kind: api.Insert}}, []string{"", ""}, []string{"", ""}},
		{[]api.Edit{{Kind: 0, Line: "a"}, {Kind: 4, Line: "b"}, {Kind: -1, Line: "c"}, {Kind: 1 << 40, Line: "d"}, {Kind: 1<<40 + api.Keep, Line: "e"}, {Kind: 256 + api.Delete, Line: "f"}, {Kind: 1<<16 + api.Insert, Line: "g"}}, nil, nil},
		{[]api.Edit{{Kind: 7, Line: "a"}, {Kind: api.Keep, Line: "b"}, {Line: "c"}, {Kind: api.Delete, Line: "d"}, {Kind: -api.Insert, Line: "e"}, {Kind: api.Insert, Line: "f"}}, list("bd"), list("bf")},
	} {
		if got := diff.Old(c.l); !slices.Equal(got, c.from) {
			t.Errorf("P6.1: Old of %v: %q; want %q", c.l, got, c.from)
		}
		if got := diff.New(c.l); !slices.Equal(got, c.to) {
			t.Errorf("P6.1: New of %v: %q; want %q", c.l, got, c.to)
		}
	}
}

func TestWhatIsHandedInIsNotChanged(t *testing.T) {
	for what, call := range map[string]func(l []string){
		"Common, first one":    func(l []string) { diff.Common(l, []string{"b", "c"}) },
		"Common, second one":   func(l []string) { diff.Common([]string{"b", "c"}, l) },
		"Common, both":         func(l []string) { diff.Common(l, l) },
		"Script, first one":    func(l []string) { diff.Script(l, []string{"b", "c"}) },
		"Script, second one":   func(l []string) { diff.Script([]string{"b", "c"}, l) },
		"Script, both":         func(l []string) { diff.Script(l, l) },
		"Distance, first one":  func(l []string) { diff.Distance(l, []string{"b", "c"}) },
		"Distance, second one": func(l []string) { diff.Distance([]string{"b", "c"}, l) },
	} {
		room := []string{"a", "b", "behind", "the end"}
		want := slices.Clone(room)
		call(room[:2])
		if !slices.Equal(room, want) {
			t.Errorf("R3: %s changes what it is given, or the room behind it: %q", what, room)
		}
	}
	room := edits("=a-b+c=d")
	if from, to := diff.Old(room[:2]), diff.New(room[:2]); !slices.Equal(from, list("ab")) || !slices.Equal(to, list("a")) || !slices.Equal(room, edits("=a-b+c=d")) {
		t.Errorf("R3: what stands behind the end of a list plays a part, or is changed: Old %q, New %q, %v", from, to, room)
	}
}

func TestWhatStandsBehindAListsEndPlaysNoPart(t *testing.T) {
	a, b := list("abcxyz"), list("bcdxyz")
	shares(t, "with room behind", a[:3], b[:3], 2)
	leads(t, "with room behind", a[:3], b[:3], edits("-a=b=c+d"))
}

func TestWhatIsHandedOutIsNew(t *testing.T) {
	a, b := list("abc"), list("bcd")
	one, other := diff.Script(a, b), diff.Script(a, b)
	from, to := diff.Old(one), diff.New(one)
	clear(one[:cap(one)])
	if !slices.Equal(other, edits("-a=b=c+d")) || !slices.Equal(from, list("abc")) || !slices.Equal(to, list("bcd")) {
		t.Errorf("R3: what is written into a script is seen in what was answered: %v, Old %q, New %q", other, from, to)
	}
	clear(from[:cap(from)])
	clear(to[:cap(to)])
	if !slices.Equal(diff.Old(other), list("abc")) || !slices.Equal(diff.New(other), list("bcd")) || !slices.Equal(a, list("abc")) || !slices.Equal(b, list("bcd")) {
		t.Error("R3: what is written into an answer is seen elsewhere")
	}
	clear(a)
	clear(b)
	if !slices.Equal(other, edits("-a=b=c+d")) {
		t.Errorf("R3: what is written into a list is seen in its script: %v", other)
	}
}

func TestAnAnswerHangsOnNoCallAheadOfIt(t *testing.T) {
	long := many(2 * api.MaxLines)
	for range 2 {
		leads(t, "behind other calls", list("ab"), list("bc"), edits("-a=b+c"))
		leads(t, "behind other calls", nil, nil, nil)
		shares(t, "behind other calls", list("ab"), list("bc"), 1)
		leads(t, "behind other calls", long, nil, all(api.Delete, long))
	}
}
