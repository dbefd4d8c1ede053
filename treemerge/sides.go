package treemerge

import (
	"rick/api"
	"rick/similar"
)

// side is which of the two trees that were made of base is meant.
type side uint8

const (
	inOurs side = iota
	inTheirs
	howMany
)

// spot is what a file of a side is found by: the path that it has in base, or its own, if the side added it. No two files of a side share one, as what a side adds has no path of base.
type spot struct {
	path string
	side side
}

// sides is the files of both sides, by what they are found by, and those that each of them added, in order.
type sides struct {
	files map[spot]api.File
	added [howMany][]api.File
}

// sidesOf answers the sides of two trees that were made of base.
func sidesOf(base, ours, theirs []api.File) sides {
	s := sides{files: map[spot]api.File{}}
	s.enter(inOurs, base, ours)
	s.enter(inTheirs, base, theirs)
	return s
}

// find answers the file of a side that is found by that path.
func (s *sides) find(p string, in side) (api.File, bool) {
	f, is := s.files[spot{path: p, side: in}]
	return f, is
}

// enter takes up the files of one side.
func (s *sides) enter(in side, base, files []api.File) {
	from := origins(base, files)
	for _, f := range files {
		at := spot{path: f.Path, side: in}
		if o, is := from[f.Path]; is {
			at.path = o.From
		} else {
			s.added[in] = append(s.added[in], f)
		}
		s.files[at] = f
	}
}

// origins answers, by its path in files, where each file of base would be there: under its own path, or where it moved to.
func origins(base, files []api.File) map[string]api.Rename {
	from := map[string]api.Rename{}
	for _, f := range base {
		from[f.Path] = api.Rename{From: f.Path, To: f.Path}
	}
	for _, r := range similar.Renames(base, files) {
		from[r.To] = r
	}
	return from
}
