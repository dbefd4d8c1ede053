package merge3_test

import (
	"fmt"
	"slices"
	"strings"
	"testing"

	"rick/api"
	"rick/chunk"
	"rick/lines"
	"rick/merge3"
)

// The marks, as the document has them.
const (
	one   = "<<<<<<< ours\n"
	two   = "||||||| base\n"
	three = "=======\n"
	four  = ">>>>>>> theirs\n"
)

// told answers v as text, of which no more is told than can be read.
func told(v any) string {
	return fmt.Sprintf("%.600s", fmt.Sprintf("%q", v))
}

// clash answers what a Conflict of these lines looks like.
func clash(ours, base, theirs string) string {
	return one + ours + two + base + three + theirs + four
}

// exchanged answers a text with the lines of ours and theirs exchanged in each conflict. It may have no other marks.
func exchanged(s string) string {
	var text strings.Builder
	for i, piece := range strings.Split(s, one) {
		if i > 0 {
			ours, rest, _ := strings.Cut(piece, two)
			base, rest, _ := strings.Cut(rest, three)
			theirs, behind, _ := strings.Cut(rest, four)
			text.WriteString(clash(theirs, base, ours))
			piece = behind
		}
		text.WriteString(piece)
	}
	return text.String()
}

// merges fails unless Merge answers just this, and, where ours and theirs are exchanged, this with both exchanged.
func merges(t *testing.T, what, base, ours, theirs, want string, clean bool) {
	t.Helper()
	if got, is := merge3.Merge(base, ours, theirs); got != want || is != clean {
		t.Errorf("P10.1: Merge, %s: of %s, %s, %s: %s, %v; want %s, %v", what, told(base), told(ours), told(theirs), told(got), is, told(want), clean)
	}
	want = exchanged(want)
	if got, is := merge3.Merge(base, theirs, ours); got != want || is != clean {
		t.Errorf("P10.1: Merge, %s, ours and theirs exchanged: of %s, %s, %s: %s, %v; want %s, %v", what, told(base), told(theirs), told(ours), told(got), is, told(want), clean)
	}
}

func TestMergeClean(t *testing.T) {
	for _, c := range []struct{ what, base, ours, theirs, want string }{
		{"the document's example", "a\n", "b\n", "a\n", "b\n"},
		{"nothing", "", "", "", ""},
		{"nobody changed", "a\nb\n", "a\nb\n", "a\nb\n", "a\nb\n"},
		{"nobody changed, no newline at the end", "a\nb", "a\nb", "a\nb", "a\nb"},
		{"one changed", "a\nb\nc\n", "a\nx\nc\n", "a\nb\nc\n", "a\nx\nc\n"},
		{"both changed to the same", "a\nb\nc\n", "a\nx\nc\n", "a\nx\nc\n", "a\nx\nc\n"},
		{"each changed another line", "a\nb\nc\n", "x\nb\nc\n", "a\nb\ny\n", "x\nb\ny\n"},
		{"each has lines more, or less", "a\nb\nc\nd\ne\n", "a\nx\ny\nb\nc\ne\n", "a\nb\nc\nd\ne\nz\n", "a\nx\ny\nb\nc\ne\nz\n"},
		{"one deleted all", "a\nb\n", "", "a\nb\n", ""},
		{"both deleted all", "a\nb\n", "", "", ""},
		{"one made all", "", "a\nb", "", "a\nb"},
		{"both made all alike", "", "a\nb\n", "a\nb\n", "a\nb\n"},
		{"one took the last newline away", "a\nb\n", "a\nb", "a\nb\n", "a\nb"},
		{"one added the last newline", "a\nb", "a\nb\n", "a\nb", "a\nb\n"},
		{"one took the last newline away, the other one changed a line", "a\nb\nc\n", "a\nb\nc", "x\nb\nc\n", "x\nb\nc"},
		{"both took the last newline away", "a\nb\n", "a\nb", "a\nb", "a\nb"},
		{"one has a line more behind a newline more", "a", "a\nb", "a", "a\nb"},
		{"lines of nothing", "\n\n", "\n\n\n", "\n\n", "\n\n\n"},
		{"other ends of lines", "a\r\nb\rc\r\n", "a\r\nb\rc\r\n", "x\r\nb\rc\r\n", "x\r\nb\rc\r\n"},
		{"any bytes", "\x00\n\xff\u00e9\n", "\x00\n\xff\u00e9\n\u010a", "\x01\n\xff\u00e9\n", "\x01\n\xff\u00e9\n\u010a"},
		{"lines that are marks", one + "a\n", one + "a\n" + four, one + "a\n", one + "a\n" + four},
	} {
		if got, clean := merge3.Merge(c.base, c.ours, c.theirs); got != c.want || !clean {
			t.Errorf("P10.1: Merge, %s: of %q, %q, %q: %q, %v; want %q, true", c.what, c.base, c.ours, c.theirs, got, clean, c.want)
		}
		if got, clean := merge3.Merge(c.base, c.theirs, c.ours); got != c.want || !clean {
			t.Errorf("P10.1: Merge, %s, ours and theirs exchanged: of %q, %q, %q: %q, %v; want %q, true", c.what, c.base, c.theirs, c.ours, got, clean, c.want)
		}
	}
}

func TestMergeOfAConflictIsWrittenOut(t *testing.T) {
	got, clean := merge3.Merge("k\na\nl\n", "k\nb\nl\n", "k\nc\nl\n")
	want := "k\n<<<<<<< ours\nb\n||||||| base\na\n=======\nc\n>>>>>>> theirs\nl\n"
	if got != want || clean {
		t.Errorf("P10.1: Merge: %q, %v; want %q, false", got, clean, want)
	}
}

func TestMergeWithConflicts(t *testing.T) {
	for _, c := range []struct{ what, base, ours, theirs, want string }{
		{"all of it", "a\n", "b\n", "c\n", clash("b\n", "a\n", "c\n")},
		{"more lines than one", "a\nb\n", "c\nd\ne\n", "f\ng\n", clash("c\nd\ne\n", "a\nb\n", "f\ng\n")},
		{"base has nothing", "", "b\n", "c\n", clash("b\n", "", "c\n")},
		{"ours has nothing", "a\n", "", "c\n", clash("", "a\n", "c\n")},
		{"at the beginning", "a\nk\n", "b\nk\n", "c\nk\n", clash("b\n", "a\n", "c\n") + "k\n"},
		{"at the end", "k\na\n", "k\nb\n", "k\nc\n", "k\n" + clash("b\n", "a\n", "c\n")},
		{"between", "k\nl\n", "k\nb\nl\n", "k\nc\nl\n", "k\n" + clash("b\n", "", "c\n") + "l\n"},
		{"two of them", "a\nk\nd\n", "b\nk\ne\n", "c\nk\nf\n", clash("b\n", "a\n", "c\n") + "k\n" + clash("e\n", "d\n", "f\n")},
		{"ahead of it what ours changed", "a\nk\nb\n", "x\nk\nc\n", "a\nk\nd\n", "x\nk\n" + clash("c\n", "b\n", "d\n")},
		{"ahead of it what theirs changed", "a\nk\nb\n", "a\nk\nc\n", "x\nk\nd\n", "x\nk\n" + clash("c\n", "b\n", "d\n")},
		{"ahead of it what both changed", "a\nk\nb\n", "x\nk\nc\n", "x\nk\nd\n", "x\nk\n" + clash("c\n", "b\n", "d\n")},
		{"ahead of it what ours deleted", "a\nk\nb\n", "k\nc\n", "a\nk\nd\n", "k\n" + clash("c\n", "b\n", "d\n")},
		{"behind it what ours changed", "b\nk\na\n", "c\nk\nx", "d\nk\na\n", clash("c\n", "b\n", "d\n") + "k\nx"},
		{"behind it what theirs changed", "b\nk\na\n", "c\nk\na\n", "d\nk\nx", clash("c\n", "b\n", "d\n") + "k\nx"},
		{"behind it what both changed", "b\nk\na\n", "c\nk\nx", "d\nk\nx", clash("c\n", "b\n", "d\n") + "k\nx"},
		{"behind it what theirs deleted", "b\nk\na\n", "c\nk\na\n", "d\nk\n", clash("c\n", "b\n", "d\n") + "k\n"},
		{"changes side by side", "a\nb\n", "x\nb\n", "a\ny\n", clash("x\nb\n", "a\nb\n", "a\ny\n")},

		{"no newline in all three", "a", "b", "c", clash("b\n", "a\n", "c\n")},
		{"no newline in base", "a", "b\n", "c\n", clash("b\n", "a\n", "c\n")},
		{"no newline in ours", "a\n", "b", "c\n", clash("b\n", "a\n", "c\n")},
		{"no newline in theirs", "a\n", "b\n", "c", clash("b\n", "a\n", "c\n")},
		{"no newline in base and ours", "a", "b", "c\n", clash("b\n", "a\n", "c\n")},
		{"no newline in ours and theirs", "a\n", "b", "c", clash("b\n", "a\n", "c\n")},
		{"no newline in base and theirs", "a", "b\n", "c", clash("b\n", "a\n", "c\n")},
		{"no newline, base has nothing", "", "b", "c", clash("b\n", "", "c\n")},
		{"no newline, ours has nothing", "a", "", "c", clash("", "a\n", "c\n")},
		{"no newline, lines ahead of it", "k\na", "k\nb\nc", "k\nd\ne", "k\n" + clash("b\nc\n", "a\n", "d\ne\n")},
		{"no newline is all that differs from ours to theirs", "a\n", "b\n", "b", clash("b\n", "a\n", "b\n")},
		{"no newline is what ours changed", "a\n", "a", "b\n", clash("a\n", "a\n", "b\n")},
		{"no newline behind a conflict: none is added", "a\nk", "b\nk", "c\nk", clash("b\n", "a\n", "c\n") + "k"},
		{"a newline is there already: none is added", "\n", "\n\n\n", "x\n", clash("\n\n\n", "\n", "x\n")},

		{"other ends of lines", "a\r", "b\r\n", "c\r", clash("b\r\n", "a\r\n", "c\r\n")},
		{"any bytes", "\xff", "\x00", "\u010a", clash("\x00\n", "\xff\n", "\u010a\n")},
		{"the first byte is a newline, the last one none", "\na", "\nb", "\nc", "\n" + clash("b\n", "a\n", "c\n")},
		{"lines that are nearly marks", "a", "=======x", " =======", clash("=======x\n", "a\n", " =======\n")},
	} {
		merges(t, c.what, c.base, c.ours, c.theirs, c.want, false)
	}
}

func TestMergeOfLinesThatAreMarks(t *testing.T) {
	for _, c := range []struct{ base, ours, theirs, want string }{
		{"a", "=======", "c", one + three + two + "a\n" + three + "c\n" + four},
		{one + "a\n", one + "b\n", one + "c\n", one + one + "b\n" + two + "a\n" + three + "c\n" + four},
	} {
		if got, clean := merge3.Merge(c.base, c.ours, c.theirs); got != c.want || clean {
			t.Errorf("P10.1: Merge of %q, %q, %q: %q, %v; want %q, false", c.base, c.ours, c.theirs, got, clean, c.want)
		}
	}
}

// nearly answers lines that are not that mark, of which bare is all but the newline, but nearly so.
func nearly(bare string) []string {
	return []string{
		"a" + bare, " " + bare, "\x00" + bare, bare[:1] + bare, bare[1:], bare[1:] + "\n", "a\n " + bare + "\n",
		bare + "a", bare + " ", bare + "\x00", bare + bare, bare[:len(bare)-1], bare[:len(bare)-1] + "\n", bare + "\r\n", "a\n" + bare + "a\nb\n",
		bare[:3] + "\n" + bare[3:], bare[:3] + " " + bare[3:] + "\n", bare[:3] + "\xbd" + bare[4:],
	}
}

func TestPlain(t *testing.T) {
	for _, mark := range []string{one, two, three, four} {
		bare := strings.TrimSuffix(mark, "\n")
		for _, s := range []string{mark, bare, "a\n" + mark, "a\n" + bare, mark + "a", mark + "a\n", "a\n" + mark + "b\n", "\n" + bare, mark + mark, "a\n\n" + mark + "\n"} {
			if merge3.Plain(s) {
				t.Errorf("P10.1: Plain of %q: true; want false", s)
			}
		}
		for _, s := range nearly(bare) {
			if !merge3.Plain(s) {
				t.Errorf("P10.1: Plain of %q: false; want true", s)
			}
		}
	}
	for _, s := range []string{"", "\n", "a", "a\n", "\n\n\n", "a\nb\nc", "<<<<<<< theirs\n", ">>>>>>> ours\n", "||||||| ours\n", "======= base\n", "<<<<<<<\n", "|||||||", ">>>>>>>\n", "<<<<<<< Ours\n", "=====\n==\n", "\xff\x00\u00e9"} {
		if !merge3.Plain(s) {
			t.Errorf("P10.1: Plain of %q: false; want true", s)
		}
	}
	if s, _ := merge3.Merge("a", "b", "c"); merge3.Plain(s) {
		t.Errorf("P10.1: Plain of %q: true; want false", s)
	}
}

// closed answers s with a newline at its end, if it has none and is not empty.
func closed(s string) string {
	if s == "" || s[len(s)-1] == '\n' {
		return s
	}
	return s + "\n"
}

// written answers what the document says that Merge of these texts writes, by their chunks.
func written(l []api.Chunk) (string, bool) {
	s, clean := "", true
	for _, c := range l {
		base, ours, theirs := strings.Join(c.Base, ""), strings.Join(c.Ours, ""), strings.Join(c.Theirs, "")
		switch c.Kind {
		case api.Conflict:
			s, clean = closed(s)+clash(closed(ours), closed(base), closed(theirs)), false
		case api.Theirs:
			s += theirs
		default:
			s += ours
		}
	}
	return s, clean
}

// holds fails unless what Merge answers of these plain texts is as the document says, and so is what is read back of it.
func holds(t *testing.T, base, ours, theirs string) {
	t.Helper()
	l := chunk.Of(lines.Split(base), lines.Split(ours), lines.Split(theirs))
	want, clean := written(l)
	merges(t, "as its chunks say", base, ours, theirs, want, clean)
	if merge3.Plain(want) != clean {
		t.Errorf("P10.1: Plain of what is merged of plain texts, %s: %v; want %v", told(want), !clean, clean)
	}
	back, e := merge3.Parse(want)
	if wantBack := readBack(l); e != api.OK || !same(back, wantBack) {
		t.Errorf("P10.2: Parse of what is merged of %s, %s, %s: %s, error %d; want %s", told(base), told(ours), told(theirs), told(back), e, told(wantBack))
	}
	if got := merge3.Pick(l, true); got != ours {
		t.Errorf("P10.2: Pick, ours, of the chunks of %s, %s, %s: %s", told(base), told(ours), told(theirs), told(got))
	}
	if got := merge3.Pick(l, false); got != theirs {
		t.Errorf("P10.2: Pick, theirs, of the chunks of %s, %s, %s: %s", told(base), told(ours), told(theirs), told(got))
	}
}

// settles fails unless what one changed is as that one has it.
func settles(t *testing.T, base, side string) {
	t.Helper()
	for _, c := range []struct{ ours, theirs string }{{side, base}, {base, side}, {side, side}} {
		if got, clean := merge3.Merge(base, c.ours, c.theirs); got != side || !clean {
			t.Errorf("What follows: Merge of %s, %s, %s: %s, %v; want %s, true", told(base), told(c.ours), told(c.theirs), told(got), clean, told(side))
		}
	}
}

// texts answers all texts of up to n bytes that are made of these.
func texts(n int, from string) []string {
	all := []string{""}
	for at := 0; len(all[at]) < n; at++ {
		for i := range len(from) {
			all = append(all, all[at]+from[i:i+1])
		}
	}
	return all
}

func TestAllShortTexts(t *testing.T) {
	for _, all := range [][]string{texts(4, "a\n"), texts(3, "ab\n"), {"", "a", "b", "a\n", "b\n", "a\nb", "b\na", "a\nb\n", "b\na\n", "a\nb\nc\n", "a\nc\n", "c\nb\n", "x\nb\nc", "a\nb\nx", "a\nx\nc\n"}} {
		for _, base := range all {
			for _, ours := range all {
				settles(t, base, ours)
				for _, theirs := range all {
					holds(t, base, ours, theirs)
				}
			}
		}
	}
}

// chance answers numbers that hang on the state alone, each below what it is asked for.
func chance(state uint32) func(below int) int {
	return func(below int) int {
		state = state*1_664_525 + 1_013_904_223
		return int(state>>8) % below
	}
}

// edited answers s with up to n lines more, and up to n less, at places that are chosen by next; now and then its last newline is taken away.
func edited(s string, n, letters int, next func(below int) int) string {
	l := lines.Split(closed(s))
	for range next(n + 1) {
		l = slices.Insert(l, next(len(l)+1), string([]byte{byte('a' + next(letters)), '\n'}))
	}
	for range min(next(n+1), len(l)) {
		i := next(len(l))
		l = slices.Delete(l, i, i+1)
	}
	if s = strings.Join(l, ""); next(3) == 0 {
		s = strings.TrimSuffix(s, "\n")
	}
	return s
}

func TestLongerTexts(t *testing.T) {
	conflicts := 0
	for state := uint32(1); state < 400; state++ {
		next, letters := chance(state), 2+int(state%23)
		base := edited("", 60, letters, next)
		ours, theirs := edited(base, 8, letters, next), edited(base, 8, letters, next)
		holds(t, base, ours, theirs)
		holds(t, base, edited("", 60, letters, next), theirs)
		settles(t, base, ours)
		if _, clean := merge3.Merge(base, ours, theirs); !clean {
			conflicts++
		}
	}
	if conflicts < 100 || conflicts > 390 {
		t.Errorf("of 399 longer texts %d have conflicts: too few or too many to tell anything", conflicts)
	}
}

// many answers n lines, each unlike the other ones.
func many(n int, name string) string {
	var s strings.Builder
	for i := range n {
		fmt.Fprintln(&s, name, i)
	}
	return s.String()
}

func TestTextsThatAreTooLongForAScript(t *testing.T) {
	head, just, tail := many(500, "head"), many(api.MaxLines-1, "tail"), many(api.MaxLines, "tail")
	merges(t, "MaxLines behind the head", head+"a\n"+just, head+"b\n"+just, head+"c\n"+just, head+clash("b\n", "a\n", "c\n")+just, false)
	merges(t, "more than MaxLines behind the head", head+"a\n"+tail, head+"b\n"+tail, head+"c\n"+tail, head+clash("b\n"+tail, "a\n"+tail, "c\n"+tail), false)
	merges(t, "more than MaxLines, one changed", head+"a\n"+tail, head+"b\n"+tail, head+"a\n"+tail, head+"b\n"+tail, true)
	all := many(100_000, "line")
	merges(t, "many lines", all, all+"b", all+"c", all+clash("b\n", "", "c\n"), false)
	merges(t, "a long line", "a", strings.Repeat("b", 1_000_000), "c", clash(strings.Repeat("b", 1_000_000)+"\n", "a\n", "c\n"), false)
	if !merge3.Plain(all) || merge3.Plain(all+"=======") {
		t.Error("P10.1: Plain of many lines: another answer")
	}
}

func TestManyConflicts(t *testing.T) {
	var base, ours, theirs, want strings.Builder
	for i := range api.MaxLines / 2 {
		k := fmt.Sprint("k", i, "\n")
		fmt.Fprint(&base, "a\n", k)
		fmt.Fprint(&ours, "b\n", k)
		fmt.Fprint(&theirs, "c\n", k)
		fmt.Fprint(&want, clash("b\n", "a\n", "c\n"), k)
	}
	merges(t, "many conflicts", base.String(), ours.String(), theirs.String(), want.String(), false)
}

func TestAnAnswerHangsOnNoCallAheadOfIt(t *testing.T) {
	for range 3 {
		merges(t, "behind other calls", "a\n", "b\n", "a\n", "b\n", true)
		merges(t, "behind other calls", "a", "b", "c", clash("b\n", "a\n", "c\n"), false)
		merges(t, "behind other calls", "", "", "", "", true)
		if merge3.Plain(one) || !merge3.Plain("a") || merge3.Plain("=======") {
			t.Error("R2: Plain, behind other calls: another answer")
		}
		if l, e := merge3.Parse(one); e != api.ErrForm || len(l) != 0 {
			t.Errorf("R2: Parse, behind other calls: %v, error %d", l, e)
		}
		if l, e := merge3.Parse("a"); e != api.OK || len(l) != 1 || merge3.Pick(l, true)+merge3.Pick(l, false)+merge3.Pick(nil, true) != "aa" {
			t.Errorf("R2: Parse and Pick, behind other calls: %v, error %d", l, e)
		}
	}
}
