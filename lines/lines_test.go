package lines_test

import (
	"fmt"
	"slices"
	"strings"
	"testing"

	"rick/lines"
)

// splits fails unless s is split into want, and want is what a text is split into, and joined to s again.
func splits(t *testing.T, what, s string, want ...string) {
	t.Helper()
	got := lines.Split(s)
	if !slices.Equal(got, want) {
		t.Errorf("P5.1: Split, %s: %d lines: %.80q; want %d: %.80q", what, len(got), got, len(want), want)
	}
	if joined := lines.Join(got); joined != s {
		t.Errorf("What follows: %s: what is split is joined to %.80q; want %.80q", what, joined, s)
	}
	if !lines.Whole(got) {
		t.Errorf("P5.1: Whole, %s: false of %.80q", what, got)
	}
	if !lines.Same(got, want) {
		t.Errorf("P5.1: Same, %s: false of %.80q and %.80q", what, got, want)
	}
}

func TestSplit(t *testing.T) {
	splits(t, "the document's example", "a\nb", "a\n", "b")
	splits(t, "the document's example", "")
	splits(t, "a last line without 0a", "a", "a")
	splits(t, "a last line with 0a", "a\n", "a\n")
	splits(t, "0a alone", "\n", "\n")
	splits(t, "empty lines", "\n\n\n", "\n", "\n", "\n")
	splits(t, "empty lines at both ends", "\n\na\n\n", "\n", "\n", "a\n", "\n")
	splits(t, "an empty line ahead of the last one", "a\n\nb", "a\n", "\n", "b")
	splits(t, "lines of many bytes", "one\ntwo and more\n three", "one\n", "two and more\n", " three")
}

func TestNothingButTheByte0aEndsALine(t *testing.T) {
	splits(t, "0d is a byte as any other one", "a\r\nb\rc\n\rd", "a\r\n", "b\rc\n", "\rd")
	const elsewhere = "a\vb\fc\u0085d\u2028e\u2029f\x00g\x1eh"
	splits(t, "what ends a line elsewhere", elsewhere, elsewhere)
	for c := range 256 {
		if c == '\n' {
			continue
		}
		b := string([]byte{byte(c)})
		splits(t, fmt.Sprintf("the byte %02x", c), "x"+b+"y\n"+b+"\n"+b, "x"+b+"y\n", b+"\n", b)
	}
}

func TestALineIsFoundByBytesNotByRunes(t *testing.T) {
	splits(t, "a rune of which the lowest byte is 0a", "\u010a\u0a0a\U0001000a", "\u010a\u0a0a\U0001000a")
	splits(t, "bytes that are no rune", "\xff\xfe\n\xc4\n\x8a\xe2\x80", "\xff\xfe\n", "\xc4\n", "\x8a\xe2\x80")
}

func TestLongTexts(t *testing.T) {
	long := strings.Repeat("x", 300_000)
	splits(t, "a long line", long, long)
	splits(t, "long lines", long+"\n"+long+"\n"+long, long+"\n", long+"\n", long)
	splits(t, "many lines", strings.Repeat("ab\n", 100_000)+"c", append(slices.Repeat([]string{"ab\n"}, 100_000), "c")...)
	splits(t, "many empty lines", strings.Repeat("\n", 100_000), slices.Repeat([]string{"\n"}, 100_000)...)
}

// texts answers all texts of up to n bytes that are made of these.
func texts(n int, from string) []string {
	all := []string{""}
	for at := 0; len(all[at]) < n; at++ {
		for i := range len(from) {
			all = append(all, all[at]+from[i:i+1])
		}
	}
	return all
}

// splitElse answers what s is split into, by another way than the program's.
func splitElse(s string) []string {
	l := strings.SplitAfter(s, "\n")
	if l[len(l)-1] == "" {
		l = l[:len(l)-1]
	}
	return l
}

func TestAllShortTexts(t *testing.T) {
	all := texts(7, "a\n\r")
	if len(all) != (3*3*3*3*3*3*3*3-1)/2 {
		t.Fatalf("%d texts", len(all))
	}
	for _, s := range all {
		splits(t, "a short text", s, splitElse(s)...)
	}
}

// lists answers all lists of up to n of these.
func lists(n int, from []string) [][]string {
	all := [][]string{nil}
	for at := 0; len(all[at]) < n; at++ {
		for _, s := range from {
			all = append(all, append(slices.Clone(all[at]), s))
		}
	}
	return all
}

func TestAllShortLists(t *testing.T) {
	all := lists(3, texts(3, "a\n"))
	if len(all) != 1+15+15*15+15*15*15 {
		t.Fatalf("%d lists", len(all))
	}
	for _, l := range all {
		s := ""
		for _, line := range l {
			s += line
		}
		if got := lines.Join(l); got != s {
			t.Errorf("P5.1: Join of %q: %q; want %q", l, got, s)
		}
		// Whole is just what Split may answer.
		want := slices.Equal(splitElse(s), l)
		if got := lines.Whole(l); got != want {
			t.Errorf("P5.1: Whole of %q: %v; want %v", l, got, want)
		}
		if got := lines.Same(lines.Split(s), l); got != want {
			t.Errorf("P5.1: Same of %q and what it is split into: %v; want %v", l, got, want)
		}
	}
}

func TestJoin(t *testing.T) {
	for _, c := range []struct {
		l    []string
		want string
	}{
		{nil, ""},
		{[]string{}, ""},
		{[]string{""}, ""},
		{[]string{"", "", ""}, ""},
		{[]string{"a"}, "a"},
		{[]string{"a\n", "b"}, "a\nb"},
		{[]string{"", "a", "", "b\n", ""}, "ab\n"},
		{[]string{"no line", "\n\n", "ends here"}, "no line\n\nends here"},
		{[]string{"\xe2", "\x82", "\xac", "\xff\x00"}, "\u20ac\xff\x00"},
	} {
		if got := lines.Join(c.l); got != c.want {
			t.Errorf("P5.1: Join of %q: %q; want %q", c.l, got, c.want)
		}
	}
}

func TestSame(t *testing.T) {
	for _, c := range []struct {
		a, b []string
		want bool
	}{
		{nil, nil, true},
		{nil, []string{}, true},
		{nil, []string{""}, false},
		{[]string{""}, []string{""}, true},
		{[]string{""}, []string{"", ""}, false},
		{[]string{"a"}, []string{"a"}, true},
		{[]string{"a"}, []string{"A"}, false},
		{[]string{"a"}, []string{"a\n"}, false},
		{[]string{"a"}, []string{"a\x00"}, false},
		{[]string{"a", "b"}, []string{"a", "b"}, true},
		{[]string{"a", "b"}, []string{"b", "a"}, false},
		{[]string{"a", "b"}, []string{"a"}, false},
		{[]string{"a", "b"}, []string{"b"}, false},
		{[]string{"a", "b"}, []string{"a", "c"}, false},
		{[]string{"a", "b"}, []string{"ab"}, false},
		{[]string{"a", "b"}, []string{"ab", ""}, false},
		{[]string{"a", "b", "c"}, []string{"a", "x", "c"}, false},
		{[]string{"\u00e9"}, []string{"e\u0301"}, false},
		{[]string{"\xff"}, []string{"\xfe"}, false},
		{[]string{"\xff"}, []string{"\ufffd"}, false},
	} {
		if lines.Same(c.a, c.b) != c.want || lines.Same(c.b, c.a) != c.want {
			t.Errorf("P5.1: Same of %q and %q: %v; want %v", c.a, c.b, !c.want, c.want)
		}
	}
}

func TestWhole(t *testing.T) {
	for _, c := range []struct {
		l    []string
		want bool
	}{
		{nil, true},
		{[]string{}, true},
		{[]string{"\n"}, true},
		{[]string{"a"}, true},
		{[]string{"a\n"}, true},
		{[]string{"a\n", "b"}, true},
		{[]string{"a\n", "b\n"}, true},
		{[]string{"\n", "\n", "a"}, true},
		{[]string{"\r"}, true},
		{[]string{"\x00\n", "\xff"}, true},
		{[]string{"\u010a\n", "\u010a"}, true},
		{[]string{""}, false},
		{[]string{"", ""}, false},
		{[]string{"", "a"}, false},
		{[]string{"a\n", ""}, false},
		{[]string{"a\n", "", "b"}, false},
		{[]string{"a", "b"}, false},
		{[]string{"a", "b\n"}, false},
		{[]string{"a\r", "b"}, false},
		{[]string{"\u010a", "b"}, false},
		{[]string{"\n\n"}, false},
		{[]string{"\na"}, false},
		{[]string{"a\nb"}, false},
		{[]string{"a\nb\n"}, false},
		{[]string{"a\nb\n", "c"}, false},
		{[]string{"a\n", "b\nc"}, false},
		{[]string{"a\n", "b\n\n"}, false},
	} {
		if got := lines.Whole(c.l); got != c.want {
			t.Errorf("P5.1: Whole of %q: %v; want %v", c.l, got, c.want)
		}
	}
}

func TestWholeOfManyLinesAsksEachOfThem(t *testing.T) {
	many := append(slices.Repeat([]string{"ab\n"}, 1_000), "c")
	if !lines.Whole(many) {
		t.Error("P5.1: Whole of many lines: false")
	}
	for i := range len(many) - 1 {
		for _, wrong := range []string{"", "ab", "a\nb\n", "\nab"} {
			torn := slices.Clone(many)
			torn[i] = wrong
			if lines.Whole(torn) {
				t.Errorf("P5.1: Whole of many lines, of which the line %d is %q: true", i, wrong)
			}
		}
	}
}

func TestWhatIsHandedInIsNotChanged(t *testing.T) {
	for what, call := range map[string]func(l []string){
		"Join":             func(l []string) { lines.Join(l) },
		"Same, first one":  func(l []string) { lines.Same(l, []string{"a\n", "b"}) },
		"Same, second one": func(l []string) { lines.Same([]string{"a\n", "b"}, l) },
		"Same, both":       func(l []string) { lines.Same(l, l) },
		"Whole":            func(l []string) { lines.Whole(l) },
	} {
		room := []string{"a\n", "b", "behind", "the end"}
		want := slices.Clone(room)
		call(room[:2])
		if !slices.Equal(room, want) {
			t.Errorf("R3: %s changes what it is given, or the room behind it: %q", what, room)
		}
	}
}

func TestWhatStandsBehindAListsEndPlaysNoPart(t *testing.T) {
	room := []string{"a\n", "b", "", "behind"}
	if l := room[:2]; lines.Join(l) != "a\nb" || !lines.Whole(l) || !lines.Same(l, []string{"a\n", "b"}) || lines.Same(l, room) {
		t.Errorf("R3: what stands behind the end of a list plays a part: Join %q, Whole %v", lines.Join(l), lines.Whole(l))
	}
}

func TestWhatIsHandedOutIsNew(t *testing.T) {
	const s = "a\nb\nc"
	one, other := lines.Split(s), lines.Split(s)
	clear(one[:cap(one)])
	_ = append(one[:1], "Q", "Q", "Q", "Q")
	splits(t, "behind one that was written into", s, other...)
	joined := []string{"a", "b"}
	whole := lines.Join(joined)
	joined[0] = "Q"
	if whole != "ab" {
		t.Errorf("R3: what was joined is kept: %q", whole)
	}
}

func TestAnAnswerHangsOnNoCallAheadOfIt(t *testing.T) {
	for range 2 {
		splits(t, "behind other calls", "a\nb", "a\n", "b")
		splits(t, "behind other calls", "")
		splits(t, "behind other calls", "\n", "\n")
		if lines.Whole([]string{"a", "b"}) || lines.Same([]string{"a"}, nil) || lines.Join(nil) != "" {
			t.Error("R2: what is answered hangs on what was asked ahead of it")
		}
	}
}
