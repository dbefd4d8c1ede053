package treemerge_test

import (
	"fmt"
	"slices"
	"strings"
	"testing"

	"rick/api"
	"rick/tree"
	"rick/treemerge"
)

// text answers s with each of its characters as a line; the marks about a conflict are told by < | = >.
func text(s string) string {
	marks := strings.NewReplacer("<", "<<<<<<< ours\n", "|", "||||||| base\n", "=", "=======\n", ">", ">>>>>>> theirs\n")
	var all strings.Builder
	for _, c := range s {
		all.WriteString(marks.Replace(string(c)))
		if !strings.ContainsRune("<|=>", c) {
			all.WriteByte('\n')
		}
	}
	return all.String()
}

// list answers the files that s tells, with a space between two: "path:text", or "path!:text" of one that may be run.
func list(s string) []api.File {
	var all []api.File
	for _, one := range strings.Fields(s) {
		p, chars, _ := strings.Cut(one, ":")
		plain, exec := strings.CutSuffix(p, "!")
		all = append(all, api.File{Path: plain, Exec: exec, Text: text(chars)})
	}
	return all
}

// kinds are those of a clash, by the letter that tells them.
var kinds = map[string]int{"T": api.ClashText, "A": api.ClashAdd, "D": api.ClashDelete, "R": api.ClashRename, "P": api.ClashPath}

// clashes answers the clashes that s tells, with a space between two: "letter:path:text".
func clashes(s string) []api.Clash {
	var all []api.Clash
	for _, one := range strings.Fields(s) {
		l := strings.SplitN(one, ":", 3)
		all = append(all, api.Clash{Path: l[1], Kind: kinds[l[0]], Text: text(l[2])})
	}
	return all
}

// told answers l as a text of one line.
func told(l any) string { return fmt.Sprintf("%q", fmt.Sprint(l)) }

// row is a case of Merge that is not refused.
type row struct{ what, base, ours, theirs, want, clashes string }

// check asks each row.
func check(t *testing.T, rows []row) {
	t.Helper()
	for _, r := range rows {
		l, c, e := treemerge.Merge(list(r.base), list(r.ours), list(r.theirs))
		if e != api.OK || !tree.Same(l, list(r.want)) || !slices.Equal(c, clashes(r.clashes)) {
			t.Errorf("P14.1: Merge of %s: %s, %s, error %d; want %s, %s", r.what, told(l), told(c), e, told(list(r.want)), told(clashes(r.clashes)))
		}
	}
}

func TestTheDocumentsExample(t *testing.T) {
	for _, s := range []string{"", "a:1", "a:1 b!:2 c/d:", "a-b:x a/b:x a0:"} {
		l := list(s)
		got, c, e := treemerge.Merge(l, l, l)
		if e != api.OK || len(c) > 0 || !tree.Same(got, l) {
			t.Errorf("P14.1: Merge of three alike, %s: %s, %s, error %d", told(l), told(got), told(c), e)
		}
	}
}

func TestTheKindsOfClashes(t *testing.T) {
	if api.ClashText != 1 || api.ClashAdd != 2 || api.ClashDelete != 3 || api.ClashRename != 4 || api.ClashPath != 5 {
		t.Fatalf("kinds: %d, %d, %d, %d, %d", api.ClashText, api.ClashAdd, api.ClashDelete, api.ClashRename, api.ClashPath)
	}
}

func TestMergeOfTexts(t *testing.T) {
	check(t, []row{
		{"what nobody changed", "f:abc", "f:abc", "f:abc", "f:abc", ""},
		{"what ours changed", "f:abc", "f:axc", "f:abc", "f:axc", ""},
		{"what theirs changed", "f:abc", "f:abc", "f:axc", "f:axc", ""},
		{"what both changed to the same", "f:abc", "f:axc", "f:axc", "f:axc", ""},
		{"what both changed, here and there", "f:abcde", "f:xbcde", "f:abcdy", "f:xbcdy", ""},
		{"what both changed, unlike", "f:abc", "f:axc", "f:ayc", "f:a<x|b=y>c", "T:f:a<x|b=y>c"},
		{"what both changed, unlike and here and there", "f:abcde", "f:xbcdm", "f:abydn", "f:xbyd<m|e=n>", "T:f:xbyd<m|e=n>"},
		{"a text that ours made empty", "f:abc", "f:", "f:abc", "f:", ""},
		{"a text that theirs made empty", "f:abc", "f:abc", "f:", "f:", ""},
		{"a text that ours made empty, and theirs changed", "f:abc", "f:", "f:axc", "f:<|abc=axc>", "T:f:<|abc=axc>"},
		{"an empty text that both changed", "f:", "f:x", "f:y", "f:<x|=y>", "T:f:<x|=y>"},
		{"a file that was made another one", "f:abc", "f:xyz", "f:abc", "f:xyz", ""},
		{"files that each changed one of", "f:abc g:abc", "f:axc g:abc", "f:abc g:ayc", "f:axc g:ayc", ""},
		{"files that both changed, unlike", "f:abc g:abc h:abc", "f:axc g:xbc h:axc", "f:ayc g:aby h:ayc", "f:a<x|b=y>c g:xby h:a<x|b=y>c", "T:f:a<x|b=y>c T:h:a<x|b=y>c"},
		{"a text that is marked already", "f:a<x|b=y>c", "f:a<x|b=y>c", "f:a<x|b=y>z", "f:a<x|b=y>z", ""},
	})
	odd := []api.File{{Path: "f", Text: "a"}}
	l, c, e := treemerge.Merge(odd, []api.File{{Path: "f", Text: "b"}}, []api.File{{Path: "f", Text: "c"}})
	if want := text("<b|a=c>"); e != api.OK || len(l) != 1 || l[0].Text != want || len(c) != 1 || c[0].Text != want {
		t.Errorf("P14.1: Merge of texts without a newline at their end: %s, %s, error %d", told(l), told(c), e)
	}
}

func TestMergeOfWhatMayBeRun(t *testing.T) {
	check(t, []row{
		{"none", "f:a", "f:a", "f:a", "f:a", ""},
		{"theirs", "f:a", "f:a", "f!:a", "f!:a", ""},
		{"ours", "f:a", "f!:a", "f:a", "f!:a", ""},
		{"both", "f:a", "f!:a", "f!:a", "f!:a", ""},
		{"base", "f!:a", "f:a", "f:a", "f:a", ""},
		{"base and theirs", "f!:a", "f:a", "f!:a", "f:a", ""},
		{"base and ours", "f!:a", "f!:a", "f:a", "f:a", ""},
		{"all", "f!:a", "f!:a", "f!:a", "f!:a", ""},
		{"one that is changed by the other", "f:abc", "f!:abc", "f:axc", "f!:axc", ""},
		{"one that is moved by the other", "f:abc", "g:abc", "f!:abc", "g!:abc", ""},
		{"one that ours moves", "f!:abc", "g:abc", "f!:axc", "g:axc", ""},
		{"one that theirs moves", "f!:abc", "f!:axc", "g:abc", "g:axc", ""},
		{"one that clashes", "f:abc", "f:axc", "f!:ayc", "f!:a<x|b=y>c", "T:f:a<x|b=y>c"},
		{"one that both move", "f:abc", "g:abc", "h!:abc", "g!:abc", "R:g:abc"},
	})
}

func TestMergeOfWhatIsGone(t *testing.T) {
	check(t, []row{
		{"gone in both", "f:abc", "", "", "", ""},
		{"gone in ours", "f:abc", "", "f:abc", "", ""},
		{"gone in theirs", "f:abc", "f:abc", "", "", ""},
		{"gone in ours, changed in theirs", "f:abc", "", "f:axc", "f:axc", "D:f:axc"},
		{"gone in theirs, changed in ours", "f:abc", "f:axc", "", "f:axc", "D:f:axc"},
		{"gone in ours, may be run in theirs", "f:abc", "", "f!:abc", "f!:abc", "D:f:abc"},
		{"gone in theirs, may be run in ours", "f:abc", "f!:abc", "", "f!:abc", "D:f:abc"},
		{"gone in ours, may not be run in theirs", "f!:abc", "", "f:abc", "f:abc", "D:f:abc"},
		{"gone in ours, moved in theirs", "f:abc", "", "g:abc", "g:abc", "D:g:abc"},
		{"gone in theirs, moved in ours", "f:abc", "g:abc", "", "g:abc", "D:g:abc"},
		{"gone in ours, moved and changed in theirs", "f:abc", "", "g!:axc", "g!:axc", "D:g:axc"},
		{"gone in theirs, moved and changed in ours", "f:abc", "g!:axc", "", "g!:axc", "D:g:axc"},
		{"gone in ours, made empty in theirs", "f:abc", "", "f:", "f:", "D:f:"},
		{"gone in theirs, filled in ours", "f:", "f:abc", "", "f:abc", "D:f:abc"},
		{"of no text, gone in ours", "f:", "", "f:", "", ""},
		{"of no text, gone in both", "f:", "", "", "", ""},
		{"of no text, gone in ours, may be run in theirs", "f:", "", "f!:", "f!:", "D:f:"},
		{"gone in ours, all others in theirs", "f:abc", "", "f:xyz", "f:xyz", "D:f:xyz"},
		{"of no text, under another path in ours", "f:", "g:", "f:", "g:", ""},
		{"of no text, under another path in ours, may be run in theirs", "f:", "g:", "f!:", "f!: g:", "D:f:"},
		{"too unlike to have moved", "f:abc", "g:axy", "f:abc", "g:axy", ""},
		{"too unlike to have moved, changed in the other one", "f:abc", "g:axy", "f:abd", "f:abd g:axy", "D:f:abd"},
		{"some", "f:abc g:abd h:k", "g:abd", "f:abx g:abd h:k", "f:abx g:abd", "D:f:abx"},
	})
}

func TestMergeOfWhatMoved(t *testing.T) {
	check(t, []row{
		{"moved by ours", "f:abc", "g:abc", "f:abc", "g:abc", ""},
		{"moved by theirs", "f:abc", "f:abc", "g:abc", "g:abc", ""},
		{"moved by both to the same", "f:abc", "g:abc", "g:abc", "g:abc", ""},
		{"moved by both, unlike", "f:abc", "g:abc", "h:abc", "g:abc", "R:g:abc"},
		{"moved by both, unlike, theirs to an earlier path", "f:abc", "h:abc", "g:abc", "h:abc", "R:h:abc"},
		{"moved by ours, changed by theirs", "f:abc", "g:abc", "f:axc", "g:axc", ""},
		{"moved by theirs, changed by ours", "f:abc", "f:axc", "g:abc", "g:axc", ""},
		{"moved and changed by ours", "f:abc", "g:axc", "f:abc", "g:axc", ""},
		{"moved and changed by ours, changed by theirs", "f:abcde", "g:xbcde", "f:abcdy", "g:xbcdy", ""},
		{"moved and changed by theirs, changed by ours", "f:abcde", "f:xbcde", "g:abcdy", "g:xbcdy", ""},
		{"moved by ours, clashing texts", "f:abc", "g:axc", "f:ayc", "g:a<x|b=y>c", "T:g:a<x|b=y>c"},
		{"moved by theirs, clashing texts", "f:abc", "f:axc", "g:ayc", "g:a<x|b=y>c", "T:g:a<x|b=y>c"},
		{"moved by both to the same, clashing texts", "f:abc", "g:axc", "g:ayc", "g:a<x|b=y>c", "T:g:a<x|b=y>c"},
		{"moved by both, unlike, clashing texts", "f:abc", "g:axc", "h:ayc", "g:a<x|b=y>c", "R:g:a<x|b=y>c"},
		{"moved by both, unlike, changed by theirs", "f:abc", "g:abc", "h:axc", "g:axc", "R:g:axc"},
		{"moved into a folder of its own name", "f:abc", "f/f:abc", "f:axc", "f/f:axc", ""},
		{"moved out of a folder", "f/f:abc", "f:abc", "f/f:axc", "f:axc", ""},
		{"moved by ours, and another one there instead", "f:abc", "f:xyz g:abc", "f:abc", "f:xyz g:abc", ""},
		{"moved round by ours", "f:abc g:xyz", "h:abc i:xyz", "f:abk g:xyk", "h:abk i:xyk", ""},
		{"one moved by each", "f:abc g:xyz", "f:abc h:xyz", "a:abc g:xyz", "a:abc h:xyz", ""},
		{"two of one text", "f:abc g:abc", "h:abc i:abc", "f:abx g:aby", "h:abx i:aby", ""},
		{"two of one text, to one", "f:abc g:abc", "h:abc", "f:abx g:aby", "g:aby h:abx", "D:g:aby"},
		{"one, to two of one text", "f:abc", "g:abc h:abc", "f:abx", "g:abx h:abc", ""},
		{"one, to the one that is most alike", "f:abcde", "g:abcxy h:abcdx", "f:zbcde", "g:abcxy h:zbcdx", ""},
		{"one, just so much alike", "f:abcd", "g:abxy", "f!:abcd", "g!:abxy", ""},
		{"one, to a path that only theirs had in base", "f:abc", "g:abc", "f:abc h:k", "g:abc h:k", ""},
		{"all of a folder", "d/a:abc d/b:xyz", "e/a:abc e/b:xyz", "d/a:abk d/b:xyk d/c:n", "d/c:n e/a:abk e/b:xyk", ""},
	})
}

func TestMergeOfWhatIsAdded(t *testing.T) {
	check(t, []row{
		{"one of ours", "", "n:p", "", "n:p", ""},
		{"one of theirs", "", "", "n:p", "n:p", ""},
		{"one that may be run of ours", "", "n!:p", "", "n!:p", ""},
		{"one that may be run of theirs", "", "", "n!:", "n!:", ""},
		{"one of each", "", "n:p", "m:q", "m:q n:p", ""},
		{"two that are alike", "", "n:p", "n:p", "n:p", ""},
		{"two that are alike, and may be run", "", "n!:p", "n!:p", "n!:p", ""},
		{"two of no text", "", "n:", "n:", "n:", ""},
		{"two of unlike texts", "", "n:p", "n:q", "n:<p|=q>", "A:n:<p|=q>"},
		{"two of unlike texts that have lines in common", "", "n:apb", "n:aqb", "n:<apb|=aqb>", "A:n:<apb|=aqb>"},
		{"two of unlike texts, of which one is empty", "", "n:", "n:q", "n:q", "A:n:q"},
		{"two of unlike texts, of which the other is empty", "", "n:p", "n:", "n:p", "A:n:p"},
		{"two of one text, ours may be run", "", "n!:p", "n:p", "n!:p", "A:n:p"},
		{"two of one text, theirs may be run", "", "n:p", "n!:p", "n:p", "A:n:p"},
		{"two of unlike texts, ours may be run", "", "n!:p", "n:q", "n!:<p|=q>", "A:n:<p|=q>"},
		{"two of unlike texts, theirs may be run", "", "n:p", "n!:q", "n:<p|=q>", "A:n:<p|=q>"},
		{"two of no text, of which one may be run", "", "n!:", "n:", "n!:", "A:n:"},
		{"some, out of order", "k:k", "a:1 k:k z:2", "b:3 k:k y:4", "a:1 b:3 k:k y:4 z:2", ""},
		{"some beside what is gone", "k:k", "a:1", "b:3 k:kk", "a:1 b:3 k:kk", "D:k:kk"},
		{"some of each, and both", "k:k", "a:1 b:1 c:1 k:k", "b:2 c:1 d:2 k:k", "a:1 b:<1|=2> c:1 d:2 k:k", "A:b:<1|=2>"},
	})
}

func TestMergeOfWhatIsBarred(t *testing.T) {
	check(t, []row{
		{"one of theirs within one of ours", "", "n:p", "n/x:q", "n:p", "P:n/x:q"},
		{"one of theirs about one of ours", "", "n/x:p", "n:q", "n/x:p", "P:n:q"},
		{"one of theirs, deep within one of ours", "", "n:p", "n/x/y!:q", "n:p", "P:n/x/y:q"},
		{"one of theirs, though others stand between", "", "a:1 a-b:2 a0:3", "a/b:4", "a:1 a-b:2 a0:3", "P:a/b:4"},
		{"none that only begins like another one", "", "n:p", "n-:q nn/x:q", "n:p n-:q nn/x:q", ""},
		{"one of ours within what theirs moved", "f:abc", "f:abc n/x:p", "n:abc", "n:abc", "P:n/x:p"},
		{"one of ours where theirs moved another one", "f:abc", "f:abc n:p", "n:abc", "n:abc", "P:n:p"},
		{"one of theirs where ours moved another one", "f:abc", "n:abc", "f:abc n:p", "n:abc", "P:n:p"},
		{"one of ours within what theirs changed", "k:k", "k/x:p", "k:l", "k:l", "D:k:l P:k/x:p"},
		{"one of theirs about what ours changed", "k/x:k", "k/x:l", "k:p", "k/x:l", "P:k:p D:k/x:l"},
		{"one of ours that is gone where theirs has no more", "k:k", "k/x:p", "k:k", "k/x:p", ""},
		{"two moved to one path", "f:abc g:xyz", "f:abc n:xyz", "g:xyz n:abc", "n:abc", "P:n:xyz"},
		{"two moved to one path, the other way round", "f:abc g:xyz", "g:xyz n:abc", "f:abc n:xyz", "n:abc", "P:n:xyz"},
		{"one moved within where another one moved", "f:abc g:xyz", "f:abc n/x:xyz", "g:xyz n:abc", "n:abc", "P:n/x:xyz"},
		{"a clash of texts that is barred", "f:abc g:xyz", "f:abc n:xaz", "g:xbz n:abc", "n:abc", "P:n:x<a|y=b>z"},
		{"a clash of paths that is barred", "f:abc g:xyz", "f:abc n:xyz", "m:xyz n:abc", "n:abc", "P:n:xyz"},
		{"a clash of paths and texts that is barred", "f:abc g:xyz", "f:abc n:xaz", "m:xbz n:abc", "n:abc", "P:n:x<a|y=b>z"},
		{"a clash of what is gone that is barred", "f:abc g:xyz", "f:abc n:xyk", "n:abc", "n:abc", "P:n:xyk"},
		{"what is just as it was where another one moved", "f:abc g:xyz", "f:abc", "f/x:abc g:xyz", "f/x:abc", ""},
		{"what stays where another one moved within", "f:abc g:xyz", "f:abc g:xyz", "f/x:abc g:xyz", "f/x:abc g:xyz", ""},
		{"what clashes, and what it bars", "f:abc", "n:axc", "f:ayc n:w", "n:a<x|b=y>c", "T:n:a<x|b=y>c P:n:w"},
		{"what was moved twice, and what it bars", "f:abc", "n:abc", "m:abc n:w", "n:abc", "R:n:abc P:n:w"},
		{"what is gone, and what it bars", "f:abc", "n:abc", "n:xyz", "n:abc", "D:n:abc P:n:xyz"},
		{"two that both added, and what they bar", "", "n:p", "n:q", "n:<p|=q>", "A:n:<p|=q>"},
		{"what ours added and bars what theirs added beside both", "", "m:1 n/x:p", "m:1 n:q", "m:1 n/x:p", "P:n:q"},
		{"what is left out, which bars nothing", "f:abc", "f:abc n/x:p", "n:abc o:q", "n:abc o:q", "P:n/x:p"},
		{"what is left out of ours, as theirs within it", "f:abc g:xyz", "f:abc g:xyz n:p", "f:abc n/x:xyz n/y:q", "f:abc n/x:xyz n/y:q", "P:n:p"},
	})
}

func TestTheOrderOfClashes(t *testing.T) {
	var base, ours, theirs, want []api.File
	var wanted []api.Clash
	for i := range 30 {
		// Each is moved by ours, clashes there, and bars what theirs added.
		from, to := fmt.Sprintf("f%02d", 29-i), fmt.Sprintf("n%02d", i)
		base = append(base, api.File{Path: from, Text: text("a") + from + text("\nbc")})
		ours = append(ours, api.File{Path: to, Text: text("a") + from + text("\nxc")})
		theirs = append(theirs, api.File{Path: from, Text: text("a") + from + text("\nyc")}, api.File{Path: to, Text: "w"})
		both := text("a") + from + text("\n<x|b=y>c")
		want = append(want, api.File{Path: to, Text: both})
		wanted = append(wanted, api.Clash{Path: to, Kind: api.ClashText, Text: both}, api.Clash{Path: to, Kind: api.ClashPath, Text: "w"})
	}
	for _, l := range [][]api.File{base, ours, theirs} {
		slices.SortFunc(l, func(a, b api.File) int { return strings.Compare(a.Path, b.Path) })
	}
	l, c, e := treemerge.Merge(base, ours, theirs)
	if e != api.OK || !tree.Same(l, want) || !slices.Equal(c, wanted) {
		t.Errorf("P14.1: Merge of many clashes: %s, error %d; want %s", told(c), e, told(wanted))
	}
}
