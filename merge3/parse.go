package merge3

import (
	"rick/api"
	"rick/lines"
)

// Parse answers the chunks of a text that Merge may have written: what stands between its marks, and what does not.
func Parse(s string) ([]api.Chunk, api.Errno) {
	known := marks()
	var l []api.Chunk
	at := outside
	for _, line := range lines.Split(s) {
		mark, is := known[line]
		if !is {
			l = put(l, line, at)
			continue
		}
		if mark.from != at {
			return nil, api.ErrForm
		}
		at = mark.to
		if at == inOurs {
			l = append(l, api.Chunk{Kind: api.Conflict})
		}
	}
	if at != outside {
		return nil, api.ErrForm
	}
	return l, api.OK
}

// put answers l with a line more, which stands in that part: of a conflict in the last chunk, which is that conflict.
func put(l []api.Chunk, line string, at part) []api.Chunk {
	if at == outside && !stableLast(l) {
		l = append(l, api.Chunk{Kind: api.Stable})
	}
	c := &l[len(l)-1]
	if at == outside || at == inBase {
		c.Base = append(c.Base, line)
	}
	if at == outside || at == inOurs {
		c.Ours = append(c.Ours, line)
	}
	if at == outside || at == inTheirs {
		c.Theirs = append(c.Theirs, line)
	}
	return l
}

// stableLast tells whether the last chunk of l is one of lines outside of marks.
func stableLast(l []api.Chunk) bool {
	return len(l) > 0 && l[len(l)-1].Kind == api.Stable
}
