package tree

import (
	"slices"

	"rick/api"
)

// Apply answers the tree l with all of c made to it, one by one.
func Apply(l []api.File, c []api.Change) ([]api.File, api.Errno) {
	if !Right(l) {
		return nil, api.ErrForm
	}
	if len(c) > api.MaxChanges {
		return nil, api.ErrLimit
	}
	made := slices.Clone(l)
	for _, one := range c {
		next, e := change(made, one)
		if e != api.OK {
			return nil, e
		}
		made = next
	}
	return made, api.OK
}

// Changes answers what has to be made to a so that it has the files of b, by rising paths.
func Changes(a, b []api.File) []api.Change {
	inA, inB := places(pathsOf(a)), places(pathsOf(b))
	all := append(pathsOf(a), pathsOf(b)...)
	slices.Sort(all)
	var l []api.Change
	for _, p := range slices.Compact(all) {
		from, was := inA[key{p}]
		to, is := inB[key{p}]
		switch {
		case !is:
			l = append(l, api.Change{Path: p, Delete: true})
		case !was || a[from] != b[to]:
			l = append(l, api.Change{Path: p, Exec: b[to].Exec, Text: b[to].Text})
		}
	}
	return l
}

// Only answers those of c whose path is one of these.
func Only(c []api.Change, paths []string) []api.Change {
	at := places(paths)
	var l []api.Change
	for _, one := range c {
		if _, is := at[key{one.Path}]; is {
			l = append(l, one)
		}
	}
	return l
}

// change answers the tree l with c made to it: it is a tree, too.
func change(l []api.File, c api.Change) ([]api.File, api.Errno) {
	if c.Delete {
		return drop(l, c.Path)
	}
	return put(l, api.File{Path: c.Path, Exec: c.Exec, Text: c.Text})
}
