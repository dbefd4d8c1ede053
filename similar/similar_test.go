package similar_test

import (
	"fmt"
	"slices"
	"strings"
	"testing"

	"rick/api"
	"rick/similar"
)

func TestTheLimits(t *testing.T) {
	if api.MaxLines != 400 || api.Alike != 50 {
		t.Fatalf("limits: %d, %d", api.MaxLines, api.Alike)
	}
}

func TestRatio(t *testing.T) {
	for _, c := range []struct {
		a, b string
		want int
	}{
		{"", "", 100},
		{"a\n", "a\n", 100},
		{"a", "a", 100},
		{"\n", "\n", 100},
		{"a\nb\nc\n", "a\nb\nc\n", 100},
		{"a\na\na\n", "a\na\na\n", 100},
		{"\x00\n\xff\n", "\x00\n\xff\n", 100},

		{"", "a\n", 0},
		{"", "a", 0},
		{"", "\n", 0},
		{"a\n", "b\n", 0},
		{"a\n", "A\n", 0},
		{"a\n", "a \n", 0},
		{"a\n", "a\r\n", 0},
		{"a\n", "a", 0},
		{"\n", "\x00", 0},
		{"\xff\n", "\xfe\n", 0},
		{"\xff\n", "\xef\xbf\xbd\n", 0},
		{"a\nb\n", "c\nd\n", 0},

		{"a\nb\n", "a\nc\n", 50},
		{"a\nb\n", "b\na\n", 50},
		{"a\nb\n", "a\nb", 50},
		{"a\nb\n", "b\nb\n", 50},
		{"a\n", "a\nb\nc\n", 50},
		{"a\n", "a\na\na\n", 50},
		{"a\n", "a\nb\n", 66},
		{"a\nb\n", "a\nb\nc\n", 80},
		{"a\nb\nc\n", "c\nb\na\n", 33},
		{"a\nb\nc\n", "b\nc\na\n", 66},
		{"a\nb\nc\n", "a\nx\nc\n", 66},
		{"a\nb\nc\nd\n", "x\nb\ny\nd\nz\n", 44},
		{"a\nb\nc\nd", "a\nb\nc\nd\n", 75},
		{"a\n\n\nb\n", "a\n\nb\n", 85},
		{"a\nx\nb\nx\n", "x\na\nx\nb\n", 75},
	} {
		if got := similar.Ratio(c.a, c.b); got != c.want {
			t.Errorf("P13.1: Ratio of %q and %q: %d; want %d", c.a, c.b, got, c.want)
		}
		if got := similar.Ratio(c.b, c.a); got != c.want {
			t.Errorf("P13.1: Ratio of %q and %q: %d; want %d", c.b, c.a, got, c.want)
		}
	}
}

// numbered answers the lines of the numbers from .. to - 1.
func numbered(from, to int) string {
	var s strings.Builder
	for i := from; i < to; i++ {
		fmt.Fprintf(&s, "%d\n", i)
	}
	return s.String()
}

// inCommon answers texts of a and b lines, with so many of them in common.
func inCommon(a, b, common int) (string, string) {
	return numbered(0, a), numbered(0, common) + numbered(1000, 1000+b-common)
}

func TestRatioIsWithoutRest(t *testing.T) {
	for _, c := range []struct{ a, b, common, want int }{
		{399, 398, 199, 49},
		{399, 397, 199, 50},
		{400, 1, 1, 0},
		{199, 1, 1, 1},
		{200, 1, 1, 0},
		{400, 400, 399, 99},
		{400, 399, 399, 99},
		{400, 400, 3, 0},
		{400, 400, 4, 1},
		{400, 400, 200, 50},
		{400, 400, 199, 49},
		{400, 400, 201, 50},
		{400, 400, 328, 82},
		{256, 256, 256, 100},
		{256, 255, 128, 50},
		{3, 4, 1, 28},
		{128, 128, 127, 99},
		{400, 133, 133, 49},
		{400, 134, 134, 50},
	} {
		a, b := inCommon(c.a, c.b, c.common)
		if got := similar.Ratio(a, b); got != c.want {
			t.Errorf("P13.1: Ratio of %d and %d lines, with %d in common: %d; want %d", c.a, c.b, c.common, got, c.want)
		}
		if got := similar.Ratio(b, a); got != c.want {
			t.Errorf("P13.1: Ratio of %d and %d lines, with %d in common: %d; want %d", c.b, c.a, c.common, got, c.want)
		}
	}
}

func TestRatioCountsLines(t *testing.T) {
	const most = 400
	for _, n := range []int{1, 2, 200, 399, most, most + 1, most + 2, 512, 656, 799, 800, 65_536, 65_537, 65_936} {
		for what, text := range map[string]string{
			"alike":                  strings.Repeat("a\n", n),
			"unlike":                 numbered(0, n),
			"of nothing":             strings.Repeat("\n", n),
			"without one at its end": strings.Repeat("a\n", n-1) + "a",
		} {
			want := 100
			if n > most {
				want = 0
			}
			if got := similar.Ratio(text, text); got != want {
				t.Errorf("P13.1: Ratio of %d lines %s, twice: %d; want %d", n, what, got, want)
			}
			line, _, _ := strings.Cut(text, "\n")
			if want > 0 && n > 1 {
				want = 200 / (n + 1)
			}
			if n == 1 && what == "without one at its end" {
				want = 0
			}
			if got := similar.Ratio(text, line+"\n"); got != want {
				t.Errorf("P13.1: Ratio of %d lines %s, and the first one: %d; want %d", n, what, got, want)
			}
			if got := similar.Ratio(line+"\n", text); got != want {
				t.Errorf("P13.1: Ratio of the first line and %d lines %s: %d; want %d", n, what, got, want)
			}
			if got, other := similar.Ratio("", text), similar.Ratio(text, ""); got != 0 || other != 0 {
				t.Errorf("P13.1: Ratio of nothing and %d lines %s: %d, %d; want 0", n, what, got, other)
			}
		}
	}
	full := strings.Repeat("a\n", most)
	if got := similar.Ratio(full, full+"a"); got != 0 {
		t.Errorf("P13.1: Ratio of %d lines, and one more without its newline: %d; want 0", most, got)
	}
	if got := similar.Ratio(full, full[:len(full)-1]); got != 99 {
		t.Errorf("P13.1: Ratio of %d lines, and as many without a newline: %d; want 99", most, got)
	}
	if got := similar.Ratio(strings.Repeat("a", 100_000), strings.Repeat("a", 100_000)); got != 100 {
		t.Errorf("P13.1: Ratio of a long line, twice: %d; want 100", got)
	}
}

// commonElse answers how many lines a and b have in common, in order, by another way than the program's: of each line of a, by where in b it may be found.
func commonElse(a, b []string) int {
	ends := map[int]int{-1: 0} // behind each place of b: how many lines up to it are in common
	for _, line := range a {
		next := map[int]int{}
		for end, n := range ends {
			next[end] = max(next[end], n)
			if at := slices.Index(b[end+1:], line); at >= 0 {
				to := end + 1 + at
				next[to] = max(next[to], n+1)
			}
		}
		ends = next
	}
	most := 0
	for _, n := range ends {
		most = max(most, n)
	}
	return most
}

// ratioElse answers the ratio of a and b by the document's words.
func ratioElse(a, b string) int {
	x, y := strings.SplitAfter(a, "\n"), strings.SplitAfter(b, "\n")
	empty := func(s string) bool { return s == "" }
	x, y = slices.DeleteFunc(x, empty), slices.DeleteFunc(y, empty)
	switch {
	case len(x) == 0 && len(y) == 0:
		return 100
	case len(x) > 400 || len(y) > 400:
		return 0
	}
	return 200 * commonElse(x, y) / (len(x) + len(y))
}

func TestRatioOfAllShortTexts(t *testing.T) {
	all := []string{""}
	for n := 0; len(all[n]) < 6; n++ {
		for _, b := range []string{"a", "\n"} {
			all = append(all, all[n]+b)
		}
	}
	seen := map[int]int{}
	for _, a := range all {
		for _, b := range all {
			got, want := similar.Ratio(a, b), ratioElse(a, b)
			if got != want {
				t.Errorf("P13.1: Ratio of %q and %q: %d; want %d", a, b, got, want)
			}
			seen[got]++
		}
	}
	if len(all) != 127 || len(seen) < 15 {
		t.Errorf("%d texts, ratios %v", len(all), seen)
	}
}

// dice tells numbers that seem to come by chance, but are always the same.
type dice uint64

// roll answers a number from 0 to n - 1.
func (d *dice) roll(n int) int {
	*d = *d*6364136223846793005 + 1442695040888963407
	return int(uint64(*d) >> 33 % uint64(n))
}

// someLines answers a text of up to n lines, of few kinds.
func (d *dice) someLines(n, kinds int) string {
	var s strings.Builder
	for range d.roll(n + 1) {
		s.WriteByte("abcdefgh"[d.roll(kinds)])
		s.WriteByte('\n')
	}
	return s.String()
}

func TestRatioOfManyTexts(t *testing.T) {
	d := dice(13)
	seen := map[int]int{}
	for range 5_000 {
		kinds := 2 + d.roll(7)
		a, b := d.someLines(15, kinds), d.someLines(15, kinds)
		got, want := similar.Ratio(a, b), ratioElse(a, b)
		if got != want {
			t.Fatalf("P13.1: Ratio of %q and %q: %d; want %d", a, b, got, want)
		}
		seen[got]++
	}
	if len(seen) < 40 {
		t.Errorf("ratios %v", seen)
	}
}
