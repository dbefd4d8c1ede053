package merge3_test

import (
	"regexp"
	"slices"
	"strings"
	"testing"

	"rick/api"
	"rick/lines"
	"rick/merge3"
)

// alike tells whether two chunks are the same.
func alike(x, y api.Chunk) bool {
	return x.Kind == y.Kind && slices.Equal(x.Base, y.Base) && slices.Equal(x.Ours, y.Ours) && slices.Equal(x.Theirs, y.Theirs)
}

// same tells whether two lists of chunks are the same.
func same(a, b []api.Chunk) bool {
	return slices.EqualFunc(a, b, alike)
}

// stable answers the chunk of lines that stand outside of marks.
func stable(s string) api.Chunk {
	return api.Chunk{Kind: api.Stable, Base: lines.Split(s), Ours: lines.Split(s), Theirs: lines.Split(s)}
}

// settle answers the chunk of lines that stand between marks.
func settle(ours, base, theirs string) api.Chunk {
	return api.Chunk{Kind: api.Conflict, Base: lines.Split(base), Ours: lines.Split(ours), Theirs: lines.Split(theirs)}
}

// readBack answers what is read back of what Merge writes of these chunks, if all of their lines are plain.
func readBack(l []api.Chunk) []api.Chunk {
	var back []api.Chunk
	text := ""
	end := func() {
		if text != "" {
			back = append(back, stable(text))
		}
		text = ""
	}
	for _, c := range l {
		base, ours, theirs := strings.Join(c.Base, ""), strings.Join(c.Ours, ""), strings.Join(c.Theirs, "")
		switch c.Kind {
		case api.Conflict:
			text = closed(text)
			end()
			back = append(back, settle(closed(ours), closed(base), closed(theirs)))
		case api.Theirs:
			text += theirs
		default:
			text += ours
		}
	}
	end()
	return back
}

// parses fails unless Parse answers just these chunks.
func parses(t *testing.T, s string, want ...api.Chunk) {
	t.Helper()
	if got, e := merge3.Parse(s); e != api.OK || !same(got, want) {
		t.Errorf("P10.2: Parse of %s: %s, error %d; want %s", told(s), told(got), e, told(want))
	}
}

// refused fails unless Parse answers ErrForm, and nothing else.
func refused(t *testing.T, s string) {
	t.Helper()
	if got, e := merge3.Parse(s); e != api.ErrForm || len(got) != 0 {
		t.Errorf("P10.2: Parse of %s: %s, error %d; want nothing, error %d", told(s), told(got), e, api.ErrForm)
	}
}

func TestParse(t *testing.T) {
	parses(t, "")
	parses(t, "\n", stable("\n"))
	parses(t, "a", stable("a"))
	parses(t, "a\n", stable("a\n"))
	parses(t, "a\nb\n\nc", stable("a\nb\n\nc"))
	parses(t, "\xff\x00\r\n\u010a\r", stable("\xff\x00\r\n\u010a\r"))

	parses(t, clash("b\n", "a\n", "c\n"), settle("b\n", "a\n", "c\n"))
	parses(t, clash("b\nc\nd\n", "a\n\n", "e\n"), settle("b\nc\nd\n", "a\n\n", "e\n"))
	parses(t, clash("", "a\n", "c\n"), settle("", "a\n", "c\n"))
	parses(t, clash("b\n", "", "c\n"), settle("b\n", "", "c\n"))
	parses(t, clash("b\n", "a\n", ""), settle("b\n", "a\n", ""))
	parses(t, clash("", "", ""), settle("", "", ""))
	parses(t, clash("a\n", "a\n", "a\n"), settle("a\n", "a\n", "a\n"))

	parses(t, "k\nl\n"+clash("b\n", "a\n", "c\n"), stable("k\nl\n"), settle("b\n", "a\n", "c\n"))
	parses(t, clash("b\n", "a\n", "c\n")+"k\nl", settle("b\n", "a\n", "c\n"), stable("k\nl"))
	parses(t, clash("b\n", "a\n", "c\n")+clash("e\n", "d\n", "f\n"), settle("b\n", "a\n", "c\n"), settle("e\n", "d\n", "f\n"))
	parses(t, clash("", "", "")+clash("", "", ""), settle("", "", ""), settle("", "", ""))
	parses(t, "k\n"+clash("b\n", "a\n", "c\n")+"l\nm\n"+clash("e\n", "d\n", "f\n")+"n\n", stable("k\n"), settle("b\n", "a\n", "c\n"), stable("l\nm\n"), settle("e\n", "d\n", "f\n"), stable("n\n"))
}

func TestParseOfTheMarksWrittenOut(t *testing.T) {
	parses(t, "k\n<<<<<<< ours\nb\n||||||| base\na\n=======\nc\n>>>>>>> theirs\nl", stable("k\n"), settle("b\n", "a\n", "c\n"), stable("l"))
}

func TestParseOfLinesThatAreNoMarks(t *testing.T) {
	for _, mark := range []string{one, two, three, four} {
		bare := strings.TrimSuffix(mark, "\n")
		parses(t, bare, stable(bare))
		parses(t, "a\n"+bare, stable("a\n"+bare))
		parses(t, clash("b\n", "a\n", "c\n")+bare, settle("b\n", "a\n", "c\n"), stable(bare))
		for _, s := range nearly(bare) {
			parses(t, s, stable(s))
			s = closed(s)
			parses(t, s+clash(s, s, s)+s, stable(s), settle(s, s, s), stable(s))
		}
	}
}

func TestParseRefuses(t *testing.T) {
	for _, s := range []string{
		one, two, three, four,
		"a\n" + two, "a\n" + three, "a\n" + four, "a\n" + one, two + "a", three + "a\n", four + "a",
		one + two, one + two + three, one + "a\n" + two + "b\n" + three + "c\n", one + "a", one + two + "a\n",
		one + three + four, one + two + four, two + three + four, one + four, one + three + two + four, four + three + two + one,
		one + one + two + three + four, one + two + two + three + four, one + two + three + three + four, one + two + three + four + four,
		one + two + one + three + four, one + two + three + one + four, one + two + three + two + four,
		one + two + three + ">>>>>>> theirs", one + two + three + "a\n>>>>>>> theirs", one + two + "=======", one + "||||||| base",
		one + two + three + " " + four, one + two + three + ">>>>>>> theirs\r\n", one + two + " " + three + four, one + two + three + ">>>>>>> ours\n",
		clash("b\n", "a\n", "c\n") + one, clash("b\n", "a\n", "c\n") + two, clash("b\n", "a\n", "c\n") + three, clash("b\n", "a\n", "c\n") + four,
		clash("b\n", "a\n", "c\n") + "k\n" + four + "k", clash(clash("", "", ""), "", ""), clash("", clash("", "", ""), ""), clash("", "", clash("", "", "")),
	} {
		refused(t, s)
	}
}

// form answers the lines of s, a sign each: 1 to 4 of a mark, "a" of others.
func form(s string) string {
	signs := ""
	for _, line := range lines.Split(s) {
		switch line {
		case one:
			signs += "1"
		case two:
			signs += "2"
		case three:
			signs += "3"
		case four:
			signs += "4"
		default:
			signs += "a"
		}
	}
	return signs
}

var (
	whole  = regexp.MustCompile(`^(a|1a*2a*3a*4)*$`)
	pieces = regexp.MustCompile(`a+|1(a*)2(a*)3(a*)4`)
)

// formed fails unless Parse of s is as its form says.
func formed(t *testing.T, s string) {
	t.Helper()
	signs := form(s)
	if !whole.MatchString(signs) {
		refused(t, s)
		return
	}
	l := lines.Split(s)
	var want []api.Chunk
	for _, at := range pieces.FindAllStringSubmatchIndex(signs, -1) {
		if at[2] < 0 {
			want = append(want, stable(strings.Join(l[at[0]:at[1]], "")))
		} else {
			want = append(want, api.Chunk{Kind: api.Conflict, Ours: l[at[2]:at[3]], Base: l[at[4]:at[5]], Theirs: l[at[6]:at[7]]})
		}
	}
	parses(t, s, want...)
}

func TestAllShortForms(t *testing.T) {
	all := []string{""}
	for at := 0; len(form(all[at])) < 6; at++ {
		for _, line := range []string{one, two, three, four, strings.Repeat("x", len(form(all[at]))) + "\n"} {
			all = append(all, all[at]+line)
		}
	}
	for _, s := range all {
		formed(t, s)
		formed(t, s+"x")
		formed(t, strings.TrimSuffix(s, "\n"))
	}
}

func TestLongerForms(t *testing.T) {
	for state := uint32(1); state < 2_000; state++ {
		next, s, last := chance(state), "", 0
		for range next(40) {
			// Mostly a mark that may stand there, so that some of the texts are not refused.
			switch next(20) {
			case 0, 1, 2, 3, 4, 5, 6:
				s += []string{one, two, three, four}[last]
				last = (last + 1) % 4
			case 7:
				s += []string{one, two, three, four}[next(4)][next(2):]
			default:
				s += string([]byte{byte('a' + next(26)), '\n'})
			}
		}
		formed(t, s)
		for ; last%4 > 0; last++ {
			s += []string{one, two, three, four}[last]
		}
		formed(t, s)
	}
}

func TestPick(t *testing.T) {
	for _, c := range []struct {
		what         string
		l            []api.Chunk
		ours, theirs string
	}{
		{"no chunk", nil, "", ""},
		{"an empty list", []api.Chunk{}, "", ""},
		{"a Conflict", []api.Chunk{settle("b\n", "a\n", "c\n")}, "b\n", "c\n"},
		{"no line in one", []api.Chunk{settle("", "a\n", "c\n")}, "", "c\n"},
		{"no line in the other one", []api.Chunk{settle("b\n", "a\n", "")}, "b\n", ""},
		{"lines that are alike", []api.Chunk{stable("a\nb")}, "a\nb", "a\nb"},
		{"several", []api.Chunk{stable("k\nl\n"), settle("b\nc\n", "a\n", "d\n"), settle("", "", "e\n"), stable("m")}, "k\nl\nb\nc\nm", "k\nl\nd\ne\nm"},
		{"what ours changed", []api.Chunk{{Kind: api.Ours, Base: []string{"a\n"}, Ours: []string{"b\n"}, Theirs: []string{"a\n"}}}, "b\n", "a\n"},
		{"what theirs changed", []api.Chunk{{Kind: api.Theirs, Base: []string{"a\n"}, Ours: []string{"a\n"}, Theirs: []string{"b\n"}}}, "a\n", "b\n"},
		{"what both changed", []api.Chunk{{Kind: api.Both, Base: []string{"a\n"}, Ours: []string{"b\n"}, Theirs: []string{"b\n"}}}, "b\n", "b\n"},
		{"a Stable chunk that is not alike", []api.Chunk{{Kind: api.Stable, Base: []string{"a"}, Ours: []string{"b"}, Theirs: []string{"c"}}}, "b", "c"},
		{"kinds that are none", []api.Chunk{{Ours: []string{"a"}, Theirs: []string{"b"}}, {Kind: -1, Ours: []string{"c"}, Theirs: []string{"d"}}, {Kind: 6, Ours: []string{"e"}, Theirs: []string{"f"}}}, "ace", "bdf"},
		{"lines that no text is split into", []api.Chunk{{Kind: api.Conflict, Ours: []string{"a", "", "b\nc"}, Theirs: []string{"", "d\n\n", ""}}}, "ab\nc", "d\n\n"},
	} {
		if got := merge3.Pick(c.l, true); got != c.ours {
			t.Errorf("P10.2: Pick, ours, %s: %q; want %q", c.what, got, c.ours)
		}
		if got := merge3.Pick(c.l, false); got != c.theirs {
			t.Errorf("P10.2: Pick, theirs, %s: %q; want %q", c.what, got, c.theirs)
		}
	}
}

func TestPickOfWhatIsReadBackSettlesIt(t *testing.T) {
	s, _ := merge3.Merge("a\nk\nd", "b\nk\ne", "c\nk\nf")
	l, e := merge3.Parse(s)
	if a, b := merge3.Pick(l, true), merge3.Pick(l, false); e != api.OK || a != "b\nk\ne\n" || b != "c\nk\nf\n" {
		t.Errorf("P10.2: Pick of Parse of %q: %q, %q, error %d", s, a, b, e)
	}
}

func TestManyLinesAreReadBack(t *testing.T) {
	all := many(100_000, "line")
	parses(t, all+clash(all, all, all)+all, stable(all), settle(all, all, all), stable(all))
	many := strings.Repeat(clash("b\n", "a\n", "c\n")+"k\n", 20_000)
	formed(t, many[:len(clash("b\n", "a\n", "c\n")+"k\n")*200])
	l, e := merge3.Parse(many)
	if e != api.OK || len(l) != 40_000 || merge3.Pick(l, true) != strings.Repeat("b\nk\n", 20_000) {
		t.Errorf("P10.2: Parse of many conflicts: %d chunks, error %d", len(l), e)
	}
	refused(t, many+one)
	refused(t, four+many)
}

// roomy answers chunks of which each list has room behind its end, with something in it.
func roomy() []api.Chunk {
	l := []api.Chunk{stable("a\n"), settle("b\n", "c\n", "d\n")}
	for i, c := range l {
		l[i] = api.Chunk{Kind: c.Kind, Base: append(c.Base, "+")[:1], Ours: append(c.Ours, "+")[:1], Theirs: append(c.Theirs, "+")[:1]}
	}
	return append(l, stable("+"))
}

func TestWhatIsHandedInIsNotChanged(t *testing.T) {
	l := roomy()
	if a, b := merge3.Pick(l[:2], true), merge3.Pick(l[:2], false); a != "a\nb\n" || b != "a\nd\n" {
		t.Errorf("P10.2: what stands behind a list's end plays a part in Pick: %q, %q", a, b)
	}
	if !same(l, roomy()) {
		t.Errorf("R3: Pick changes its chunks: %v", l)
	}
	for i, c := range l[:2] {
		if c.Base[:2][1]+c.Ours[:2][1]+c.Theirs[:2][1] != "+++" {
			t.Errorf("R3: Pick changes the room behind the lists of the chunk %d: %v", i, c)
		}
	}
}

// lists answers the lists of c.
func lists(c api.Chunk) [][]string {
	return [][]string{c.Base, c.Ours, c.Theirs}
}

// copied answers l in memory of its own.
func copied(l []api.Chunk) []api.Chunk {
	var c []api.Chunk
	for _, x := range l {
		c = append(c, api.Chunk{Kind: x.Kind, Base: slices.Clone(x.Base), Ours: slices.Clone(x.Ours), Theirs: slices.Clone(x.Theirs)})
	}
	return c
}

func TestNoTwoListsThatAreReadBackShareMemory(t *testing.T) {
	s := "k\nl\n" + clash("a\nb\n", "c\nd\n", "e\nf\n") + clash("a\n", "a\n", "a\n") + "m\nn\no"
	l, _ := merge3.Parse(s)
	other, _ := merge3.Parse(s)
	want := copied(l)
	for i := range l {
		for k, part := range lists(l[i]) {
			rest := copied(l)
			_ = append(part, "over", "over", "over")
			clear(part)
			clear(lists(rest[i])[k])
			if !same(l, rest) {
				t.Errorf("R3: what is written into the list %d of the chunk %d, or behind it, is seen in another one: %v", k, i, l)
			}
			copy(part, lists(want[i])[k])
		}
	}
	clear(l[:cap(l)])
	if !same(other, want) {
		t.Errorf("R3: what is written into chunks is seen in others: %v", other)
	}
	parses(t, s, want...)
}
