package similar_test

import (
	"fmt"
	"slices"
	"strings"
	"testing"

	"rick/api"
	"rick/similar"
	"rick/tree"
)

// file is one that may not be run.
func file(path, text string) api.File { return api.File{Path: path, Text: text} }

// tool is one that may be run.
func tool(path, text string) api.File { return api.File{Path: path, Exec: true, Text: text} }

// list answers files of paths and texts, which take turns; each character of a text is a line of it.
func list(l ...string) []api.File {
	var all []api.File
	for i := 0; i < len(l); i += 2 {
		text := ""
		for _, c := range l[i+1] {
			text += string(c) + "\n"
		}
		all = append(all, file(l[i], text))
	}
	return all
}

// moves answers the renames of paths, which take turns.
func moves(l ...string) []api.Rename {
	var all []api.Rename
	for i := 0; i < len(l); i += 2 {
		all = append(all, api.Rename{From: l[i], To: l[i+1]})
	}
	return all
}

// told answers l as a text of one line.
func told(l []api.File) string { return fmt.Sprintf("%q", fmt.Sprint(l)) }

// row is a case of Renames.
type row struct {
	what       string
	base, side []api.File
	want       []api.Rename
}

// check asks each row.
func check(t *testing.T, rows []row) {
	t.Helper()
	for _, r := range rows {
		if got := similar.Renames(r.base, r.side); !slices.Equal(got, r.want) {
			t.Errorf("P13.2: Renames of %s: %q; want %q", r.what, got, r.want)
		}
	}
}

func TestTheDocumentsExample(t *testing.T) {
	got := similar.Renames([]api.File{file("a", "x\n")}, []api.File{file("b", "x\n")})
	if want := moves("a", "b"); !slices.Equal(got, want) {
		t.Errorf("P13.2: Renames of a to b: %q; want %q", got, want)
	}
}

func TestRenamesOfTheSameText(t *testing.T) {
	check(t, []row{
		{"nothing", nil, nil, nil},
		{"empty lists", []api.File{}, []api.File{}, nil},
		{"nothing, to one", nil, list("a", "x"), nil},
		{"one, to nothing", list("a", "x"), nil, nil},
		{"one to an earlier path", list("b", "x"), list("a", "x"), moves("b", "a")},
		{"one into a folder", list("a", "x"), list("a/a", "x"), moves("a", "a/a")},
		{"one that may be run now", list("a", "x"), []api.File{tool("b", "x\n")}, moves("a", "b")},
		{"one that may not be run now", []api.File{tool("a", "x\n")}, list("b", "x"), moves("a", "b")},
		{"a text that is no line", []api.File{file("a", "\x00")}, []api.File{file("b", "\x00")}, moves("a", "b")},
		{"a text of an empty line", []api.File{file("a", "\n")}, []api.File{file("b", "\n")}, moves("a", "b")},
		{"two that change places with others", list("a", "x", "b", "y"), list("c", "y", "d", "x"), moves("a", "d", "b", "c")},
		{"two of one text", list("a", "x", "b", "x"), list("c", "x", "d", "x"), moves("a", "c", "b", "d")},
		{"two of one text, to one", list("a", "x", "b", "x"), list("c", "x"), moves("a", "c")},
		{"one, to two of one text", list("a", "x"), list("b", "x", "c", "x"), moves("a", "b")},
		{"three of one text, to two", list("a", "x", "b", "x", "c", "x"), list("d", "x", "e", "x"), moves("a", "d", "b", "e")},
		{"two texts that take turns", list("a", "x", "b", "y", "c", "x", "d", "y"), list("e", "y", "f", "x", "g", "y", "h", "x"), moves("a", "f", "b", "e", "c", "h", "d", "g")},
		{"one among some that stay", list("a", "x", "b", "x", "c", "x"), list("a", "x", "c", "x", "d", "x"), moves("b", "d")},
	})
}

func TestRenamesOfWhatStays(t *testing.T) {
	check(t, []row{
		{"one that stays, and its twin", list("a", "x"), list("a", "x", "b", "x"), nil},
		{"one that was there, and its twin", list("a", "x", "b", "x"), list("b", "x"), nil},
		{"one that stays with another text", list("a", "x"), list("a", "y", "b", "x"), nil},
		{"one that stays with no text", list("a", "x"), list("a", "", "b", "x"), nil},
		{"one that stays, as a tool", list("a", "x"), []api.File{tool("a", "x\n"), file("b", "x\n")}, nil},
		{"one in the place of another one", list("a", "x", "k", "k"), list("k", "x"), nil},
		{"one in the place of one of no text", list("a", "x", "k", ""), list("k", "x"), nil},
		{"two that change places", list("a", "x", "b", "y"), list("a", "y", "b", "x"), nil},
		{"each in the place of the next one", list("a", "x", "b", "y"), list("b", "x", "c", "y"), nil},
		{"one beside one that stays, alike", list("a", "1234"), list("a", "12", "b", "1234"), nil},
		{"a path that is nearly there", list("a", "x"), list("a/", "x", "A", "x"), moves("a", "a/")},
	})
}

func TestRenamesOfNoText(t *testing.T) {
	check(t, []row{
		{"no text to no text", list("a", ""), list("b", ""), nil},
		{"no text, to a tool of no text", list("a", ""), []api.File{tool("b", "")}, nil},
		{"no text to some", list("a", ""), list("b", "x"), nil},
		{"some text to none", list("a", "x"), list("b", ""), nil},
		{"no text beside some", list("a", "", "b", "x", "c", ""), list("d", "", "e", "", "f", "x"), moves("b", "f")},
	})
}

func TestRenamesOfWhatIsAlike(t *testing.T) {
	check(t, []row{
		{"one line more", list("a", "123"), list("b", "1234"), moves("a", "b")},
		{"one line less", list("a", "123"), list("b", "12"), moves("a", "b")},
		{"just so much alike", list("a", "12"), list("b", "13"), moves("a", "b")},
		{"just so much alike, of unlike length", list("a", "1"), list("b", "123"), moves("a", "b")},
		{"a little less alike", list("a", "123"), list("b", "145"), nil},
		{"a little less alike, of unlike length", list("a", "1"), list("b", "1234"), nil},
		{"lines in another order", list("a", "123"), list("b", "321"), nil},
		{"lines in another order, but enough of them", list("a", "1234"), list("b", "3412"), moves("a", "b")},
		{"lines that are there often", list("a", "1111"), list("b", "1222"), nil},
		{"lines that are there often, in both", list("a", "1111"), list("b", "1122"), moves("a", "b")},
		{"one that is alike, as a tool", list("a", "12"), []api.File{tool("b", "1\n3\n")}, moves("a", "b")},
		{"the one that is alike", list("a", "1234"), list("b", "5678", "c", "1239"), moves("a", "c")},
		{"two", list("a", "1234", "b", "5678"), list("c", "567", "d", "123"), moves("a", "d", "b", "c")},
		{"two of one, to one", list("a", "1234", "b", "1234"), list("c", "1235"), moves("a", "c")},
		{"one, to two of one", list("a", "1234"), list("b", "1235", "c", "1235"), moves("a", "b")},
		{"the same text ahead of what is alike", list("a", "1234", "b", "1235"), list("c", "1235"), moves("b", "c")},
		{"the same text first, the rest by what is alike", list("a", "1235", "b", "1234"), list("c", "1234", "d", "1236"), moves("a", "d", "b", "c")},
		{"the same text first, though what is left then is not alike", list("a", "1278", "b", "1234"), list("c", "1234", "d", "3490"), moves("b", "c")},
	})
}

func TestOfWhatIsAlikeTheGreatestRatioGoesFirst(t *testing.T) {
	check(t, []row{
		{"the later one of base", list("a", "1290", "b", "1239"), list("c", "1234"), moves("b", "c")},
		{"the later one of side", list("a", "1234"), list("b", "1290", "c", "1239"), moves("a", "c")},
		{"the later ones of both, and then the earlier ones", list("a", "1290", "b", "1239"), list("c", "1280", "d", "1234"), moves("a", "c", "b", "d")},
		{"the earlier one of base, with the later one of side", list("a", "1239", "b", "1290"), list("c", "1280", "d", "1234"), moves("a", "d", "b", "c")},
		{"one by one, until none is alike", list("a", "1234", "b", "12ab", "c", "cdef"), list("d", "123x", "e", "34ab", "f", "xyzw"), moves("a", "d", "b", "e")},
		{"the greatest one, though two could be paired without it", list("a", "1234", "b", "12ab"), list("c", "123x", "d", "34cd"), moves("a", "c")},
		{"ties: the first one of base", list("a", "12", "b", "13"), list("c", "14"), moves("a", "c")},
		{"ties: the first one of side", list("a", "12"), list("b", "13", "c", "14"), moves("a", "b")},
		{"ties: each", list("a", "12", "b", "13", "c", "14"), list("d", "15", "e", "16"), moves("a", "d", "b", "e")},
		{"ties: base ahead of side", list("a", "1298", "b", "1278"), list("c", "5678", "d", "1256"), moves("a", "d", "b", "c")},
		{"ties: of base the first, of side what is alike", list("a", "5612", "b", "1234"), list("c", "3478", "d", "1278", "e", "5690"), moves("a", "d", "b", "c")},
	})
	// These are 99, 98 and so on: a step of one counts.
	var base, side []api.File
	for i := range 50 {
		base = append(base, file(fmt.Sprintf("a%02d", i), numbered(0, 50+i)+numbered(100, 150-i)))
	}
	side = []api.File{file("b", numbered(0, 100))}
	if got, want := similar.Renames(base, side), moves("a49", "b"); !slices.Equal(got, want) {
		t.Errorf("P13.2: Renames of many that are alike: %q; want %q", got, want)
	}
	slices.Reverse(base)
	if got, want := similar.Renames(base[1:], side), moves("a48", "b"); !slices.Equal(got, want) {
		t.Errorf("P13.2: Renames of many that are alike, the last one first: %q; want %q", got, want)
	}
}

func TestRenamesAreAlikeFromHalfOn(t *testing.T) {
	for _, c := range []struct{ a, b, common, ratio int }{
		{399, 398, 199, 49},
		{399, 397, 199, 50},
		{400, 400, 199, 49},
		{400, 400, 200, 50},
		{400, 400, 201, 50},
		{400, 400, 399, 99},
		{400, 133, 133, 49},
		{400, 134, 134, 50},
		{3, 2, 1, 40},
		{201, 200, 100, 49},
		{200, 200, 100, 50},
	} {
		a, b := inCommon(c.a, c.b, c.common)
		want := moves("a", "b")
		if c.ratio < 50 {
			want = nil
		}
		if got := similar.Renames([]api.File{file("a", a)}, []api.File{file("b", b)}); !slices.Equal(got, want) || similar.Ratio(a, b) != c.ratio {
			t.Errorf("P13.2: Renames of a to b of ratio %d: %q; want %q", c.ratio, got, want)
		}
		if got := similar.Renames([]api.File{file("a", b)}, []api.File{file("b", a)}); !slices.Equal(got, want) {
			t.Errorf("P13.2: Renames of a to b of ratio %d, the other way round: %q; want %q", c.ratio, got, want)
		}
	}
}

func TestRenamesOfLinesThatMovedAreAlikeFromHalfOn(t *testing.T) {
	// Of these lines b has more than half, but in another order: 13 are in common.
	b := numbered(20, 26) + numbered(0, 13) + numbered(1000, 1007)
	for n, want := range map[int][]api.Rename{26: moves("a", "b"), 27: nil, 28: nil} {
		a := numbered(0, n)
		if got := similar.Renames([]api.File{file("a", a)}, []api.File{file("b", b)}); !slices.Equal(got, want) {
			t.Errorf("P13.2: Renames of a to b of ratio %d: %q; want %q", similar.Ratio(a, b), got, want)
		}
		if got := similar.Renames([]api.File{file("a", b)}, []api.File{file("b", a)}); !slices.Equal(got, want) {
			t.Errorf("P13.2: Renames of a to b of ratio %d, the other way round: %q; want %q", similar.Ratio(b, a), got, want)
		}
	}
}

func TestRenamesOfLongTexts(t *testing.T) {
	for _, n := range []int{399, 400, 401, 402, 512, 5_000} {
		text := strings.Repeat("1\n", n)
		same := similar.Renames([]api.File{file("a", text)}, []api.File{file("b", text)})
		if want := moves("a", "b"); !slices.Equal(same, want) {
			t.Errorf("P13.2: Renames of the same %d lines: %q; want %q", n, same, want)
		}
		want := moves("a", "b")
		if n > 400 {
			want = nil
		}
		nearly := text[:len(text)-2] + "2\n"
		if got := similar.Renames([]api.File{file("a", text)}, []api.File{file("b", nearly)}); !slices.Equal(got, want) {
			t.Errorf("P13.2: Renames of %d lines, of which one is another one: %q; want %q", n, got, want)
		}
		want = moves("a", "b")
		if n > 399 {
			want = nil
		}
		if got := similar.Renames([]api.File{file("a", text)}, []api.File{file("b", text+"1")}); !slices.Equal(got, want) {
			t.Errorf("P13.2: Renames of %d lines to one more: %q; want %q", n, got, want)
		}
		if got := similar.Renames([]api.File{file("a", text+"1")}, []api.File{file("b", text)}); !slices.Equal(got, want) {
			t.Errorf("P13.2: Renames of %d lines to one less: %q; want %q", n, got, want)
		}
	}
}

func TestRenamesOfWhatIsNoTree(t *testing.T) {
	check(t, []row{
		{"those of one path, in the order of base", list("a", "12", "a", "z"), list("c", "z", "b", "13"), moves("a", "b", "a", "c")},
		{"those of one path, the other way round", list("a", "z", "a", "12"), list("c", "z", "b", "13"), moves("a", "c", "a", "b")},
		{"those of one path, beside others", list("b", "x", "a", "y", "b", "z", "a", "w"), list("1", "w", "2", "z", "3", "y", "4", "x"), moves("a", "3", "a", "1", "b", "4", "b", "2")},
		{"falling paths", list("b", "z", "a", "z"), list("c", "z", "d", "z"), moves("a", "d", "b", "c")},
		{"falling paths of side", list("a", "z", "b", "z"), list("d", "z", "c", "z"), moves("a", "d", "b", "c")},
		{"falling paths, alike", list("b", "12", "a", "13"), list("d", "14", "c", "15"), moves("a", "c", "b", "d")},
		{"two of one path in side", list("a", "x", "b", "x"), list("c", "x", "c", "x"), moves("a", "c", "b", "c")},
		{"a path that is there twice", list("a", "x", "b", "y", "b", "x"), list("b", "z", "c", "x"), moves("a", "c")},
		{"a path that side has twice", list("a", "x", "b", "y"), list("b", "z", "b", "x", "c", "x"), moves("a", "c")},
		{"a path that is there a second time, with no text", list("a", "x", "b", ""), list("c", "x", "a", ""), nil},
		{"no path", list("", "x"), list("b", "x"), moves("", "b")},
		{"to no path", list("a", "x"), list("", "x"), moves("a", "")},
		{"no path in both", list("", "x"), list("", "y", "b", "x"), nil},
		{"paths that may not be", list("a//b", "x", "/", "y"), list("..", "x", "\xff", "y"), moves("/", "\xff", "a//b", "..")},
		{"paths that clash", list("a", "x", "a/b", "y"), list("c", "y", "c/d", "x"), moves("a", "c/d", "a/b", "c")},
		{"paths byte by byte", list("\xc3\xa4", "1", "z", "2", "Z", "3", "a", "4", "a-", "5", "a/", "6"), list("1", "1", "2", "2", "3", "3", "4", "4", "5", "5", "6", "6"), moves("Z", "3", "a", "4", "a-", "5", "a/", "6", "z", "2", "\xc3\xa4", "1")},
	})
}

func TestThoseOfOnePathStayInTheOrderOfBase(t *testing.T) {
	var base, side []api.File
	var ofA, ofB []api.Rename
	for i := range 100 {
		from, to := "ba"[i%2:i%2+1], fmt.Sprint("c", (i*37)%100)
		base = append(base, file(from, fmt.Sprint(i)))
		side = append(side, file(to, fmt.Sprint(i)))
		if from == "a" {
			ofA = append(ofA, api.Rename{From: from, To: to})
		} else {
			ofB = append(ofB, api.Rename{From: from, To: to})
		}
	}
	slices.Reverse(side)
	if got, want := similar.Renames(base, side), append(ofA, ofB...); !slices.Equal(got, want) {
		t.Errorf("P13.2: Renames of many files of two paths: %q; want %q", got, want)
	}
}

func TestRenamesOfManyFiles(t *testing.T) {
	for _, n := range []int{100, 101, 256, 1_000} {
		var base, side []api.File
		var want []api.Rename
		for i := range n {
			from, to := fmt.Sprintf("a/%04d", i), fmt.Sprintf("b/%04d", n-i)
			base = append(base, file(from, fmt.Sprintf("text %d\n", i)))
			side = append(side, file(to, base[i].Text))
			want = append(want, api.Rename{From: from, To: to})
		}
		slices.Reverse(side)
		if got := similar.Renames(base, side); !slices.Equal(got, want) {
			t.Errorf("P13.2: Renames of %d files: %d renames", n, len(got))
		}
	}
}

func TestAFolderMovesWhileItsFilesChange(t *testing.T) {
	var base, side []api.File
	var want []api.Rename
	for i := range api.MaxFiles {
		from, to := fmt.Sprintf("a/%03d", i), fmt.Sprintf("b/%03d", i)
		text := numbered(1000*i, 1000*i+100)
		base = append(base, file(from, text))
		side = append(side, file(to, text[:len(text)/2]+"new\n"+text[len(text)/2:]))
		want = append(want, api.Rename{From: from, To: to})
	}
	if got := similar.Renames(base, side); !slices.Equal(got, want) {
		t.Errorf("P13.2: Renames of a folder: %q", got)
	}
}

// candidates answers the places of those of l that may be paired.
func candidates(l, others []api.File) []int {
	var places []int
	for i, f := range l {
		there := slices.ContainsFunc(others, func(o api.File) bool { return o.Path == f.Path })
		if !there && len(f.Text) > 0 {
			places = append(places, i)
		}
	}
	return places
}

// renamesElse answers the renames by the document's words, one pair after the other.
func renamesElse(base, side []api.File) []api.Rename {
	from, to := candidates(base, side), candidates(side, base)
	paired := map[int]int{}
	pair := func(i, j int) {
		paired[from[i]] = to[j]
		from, to = slices.Delete(from, i, i+1), slices.Delete(to, j, j+1)
	}
	for i := 0; i < len(from); {
		j := slices.IndexFunc(to, func(at int) bool { return side[at].Text == base[from[i]].Text })
		if j < 0 {
			i++
		} else {
			pair(i, j)
		}
	}
	for {
		most, atI, atJ := 49, 0, 0
		for i := range from {
			for j := range to {
				if r := ratioElse(base[from[i]].Text, side[to[j]].Text); r > most {
					most, atI, atJ = r, i, j
				}
			}
		}
		if most < 50 {
			break
		}
		pair(atI, atJ)
	}
	var l []api.Rename
	for i := range base {
		if j, is := paired[i]; is {
			l = append(l, api.Rename{From: base[i].Path, To: side[j].Path})
		}
	}
	slices.SortStableFunc(l, func(a, b api.Rename) int { return strings.Compare(a.From, b.From) })
	return l
}

// someFiles answers up to n files of these paths, in any order.
func (d *dice) someFiles(n, kinds int, paths []string) []api.File {
	var l []api.File
	for range d.roll(n + 1) {
		l = append(l, api.File{Path: paths[d.roll(len(paths))], Exec: d.roll(2) == 0, Text: d.someLines(5, kinds)})
	}
	return l
}

// planted answers a tree of those of l that can be there, beside the ones ahead of them.
func planted(l []api.File) []api.File {
	var made []api.File
	for _, f := range l {
		if next, e := tree.Put(made, f); e == api.OK {
			made = next
		}
	}
	return made
}

func TestRenamesByTheDocumentsWords(t *testing.T) {
	d := dice(132)
	ofBase, ofSide := []string{"a", "b", "c", "d/a", "d/b", "k", "l"}, []string{"a/x", "b", "c-", "d", "e", "k", "m", "n"}
	count := map[int]int{}
	for i := range 30_000 {
		kinds := 1 + d.roll(5)
		base, side := d.someFiles(7, kinds, ofBase), d.someFiles(7, kinds, ofSide)
		if i%2 == 0 {
			base, side = planted(base), planted(side)
		}
		got, want := similar.Renames(base, side), renamesElse(base, side)
		if !slices.Equal(got, want) {
			t.Fatalf("P13.2: Renames from %s to %s: %q; want %q", told(base), told(side), got, want)
		}
		count[len(got)]++
	}
	for n := range 6 {
		if count[n] < 50 {
			t.Errorf("%d times %d renames", count[n], n)
		}
	}
}

func TestWhereNothingMovedThereIsNone(t *testing.T) {
	d := dice(1320)
	paths := []string{"a", "b", "c", "d/a", "d/b", "e"}
	for range 3_000 {
		l := planted(d.someFiles(8, 3, paths))
		var changed, more []api.File
		for _, f := range l {
			changed = append(changed, tool(f.Path, d.someLines(4, 3)))
		}
		more = planted(append(slices.Clone(changed), d.someFiles(4, 3, []string{"f", "g"})...))
		for what, side := range map[string][]api.File{"all as it was": slices.Clone(l), "other texts": changed, "some added": more, "all gone": nil} {
			if got := similar.Renames(l, side); len(got) != 0 {
				t.Errorf("What follows: Renames from %s, and %s, %s: %q", told(l), what, told(side), got)
			}
		}
		if got := similar.Renames(more, l); len(got) != 0 {
			t.Errorf("What follows: Renames from %s, of which some are gone, %s: %q", told(more), told(l), got)
		}
	}
}

func TestEachFileIsPairedOnce(t *testing.T) {
	d := dice(13)
	for range 2_000 {
		base := planted(d.someFiles(9, 2, []string{"a", "b", "c", "d", "e", "k"}))
		side := planted(d.someFiles(9, 2, []string{"f", "g", "h", "i", "j", "k"}))
		from, to := map[string]int{}, map[string]int{}
		got := similar.Renames(base, side)
		for i, r := range got {
			from[r.From]++
			to[r.To]++
			a, was := tree.Find(base, r.From)
			b, is := tree.Find(side, r.To)
			if !was || !is || similar.Ratio(a.Text, b.Text) < api.Alike || from[r.From] > 1 || to[r.To] > 1 || i > 0 && got[i-1].From >= r.From {
				t.Errorf("P13.2: Renames from %s to %s: %q", told(base), told(side), got)
			}
		}
		for _, i := range candidates(base, side) {
			for _, j := range candidates(side, base) {
				if a, b := base[i], side[j]; from[a.Path] == 0 && to[b.Path] == 0 && similar.Ratio(a.Text, b.Text) >= api.Alike {
					t.Errorf("P13.2: Renames from %s to %s: %q; %q and %q are left", told(base), told(side), got, a.Path, b.Path)
				}
			}
		}
	}
}

// roomy answers l with room behind its end, and all of it, so that what is written there is seen.
func roomy(l []api.File) (out, all []api.File) {
	all = append(slices.Clone(l), file("room", "r"), file("room", "r"), file("room", "r"))
	return all[:len(l)], all
}

func TestWhatIsHandedInIsNotChanged(t *testing.T) {
	base, allBase := roomy(list("b", "12", "k", "k", "a", "x", "n", ""))
	side, allSide := roomy(list("d", "x", "k", "1", "c", "13"))
	wantBase, wantSide := slices.Clone(allBase), slices.Clone(allSide)
	for range 3 {
		for i := range len(base) + 1 {
			for j := range len(side) + 1 {
				similar.Renames(base[:i], side[:j])
				similar.Renames(side[:j], base[:i])
			}
		}
	}
	if !slices.Equal(allBase, wantBase) || !slices.Equal(allSide, wantSide) {
		t.Errorf("R3: files that were handed in were changed: %s, %s", told(allBase), told(allSide))
	}
}

func TestWhatIsHandedOutIsNew(t *testing.T) {
	base, side := list("a", "x", "b", "12"), list("c", "13", "d", "x")
	one, other := similar.Renames(base, side), similar.Renames(base, side)
	want := moves("a", "d", "b", "c")
	clear(one[:cap(one)])
	clear(base)
	clear(side)
	if !slices.Equal(other, want) {
		t.Errorf("R3: who writes into an answer changes another one: %q; want %q", other, want)
	}
}

func TestAnAnswerHangsOnNoCallAheadOfIt(t *testing.T) {
	base, side := list("a", "x", "b", "x", "c", "12", "d", "13", "e", "14"), list("p", "15", "q", "x", "r", "16", "s", "17", "t", "x")
	first := similar.Renames(base, side)
	for range 50 {
		similar.Renames(side, base)
		similar.Ratio("x\n", "y\n")
		if now := similar.Renames(base, side); !slices.Equal(now, first) {
			t.Errorf("R2: what is answered hangs on what was asked ahead of it: %q; first: %q", now, first)
		}
		if n := similar.Ratio("a\nb\n", "b\n"); n != 66 {
			t.Errorf("R2: Ratio of two and one: %d; want 66", n)
		}
	}
	if want := moves("a", "q", "b", "t", "c", "p", "d", "r", "e", "s"); !slices.Equal(first, want) {
		t.Errorf("P13.2: Renames of ties: %q; want %q", first, want)
	}
}
