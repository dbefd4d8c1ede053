package store_test

import (
	"bytes"
	"fmt"
	"slices"
	"testing"

	"rick/api"
	"rick/object"
	"rick/store"
	"rick/tree"
)

// dice answers numbers that are scattered, the same ones in each run.
type dice uint64

func (d *dice) next(n int) int {
	*d += 0x9e3779b97f4a7c15
	v := uint64(*d)
	v = (v ^ v>>30) * 0xbf58476d1ce4e5b9
	v = (v ^ v>>27) * 0x94d049bb133111eb
	return int((v ^ v>>31) % uint64(n))
}

// text is one of a few, so that many are there already.
func (d *dice) text() string { return fmt.Sprint(d.next(12)) }

// files may be a tree or not.
func (d *dice) files() []api.File {
	paths := []string{"a", "a-b", "a/b", "a/c", "b", "b/c/d", ".."}
	var l []api.File
	for i := range paths[:len(paths)-1+d.next(8)/7] {
		if d.next(3) == 0 {
			l = append(l, api.File{Path: paths[i], Exec: d.next(2) == 1, Text: d.text()})
		}
	}
	return l
}

// model is a store by the words of the chapter: a list of objects, gone through each time.
type model struct{ all [][]byte }

func (m *model) get(k api.Key) []byte {
	for _, b := range m.all {
		if sum(b) == k {
			return b
		}
	}
	return nil
}

func (m *model) put(b []byte) {
	if m.get(sum(b)) == nil {
		m.all = append(m.all, b)
	}
}

// key is one of what is there, or of what is not.
func (m *model) key(d *dice) api.Key {
	if len(m.all) == 0 || d.next(8) == 0 {
		return sum([]byte(d.text()))
	}
	return sum(m.all[d.next(len(m.all))])
}

// take is the error of the Take of b's kind.
func take(b []byte) api.Errno {
	if len(b) == 0 {
		return api.ErrForm
	}
	e := api.ErrForm
	switch b[0] {
	case 1:
		_, e = object.TakeBlob(b)
	case 2:
		_, e = object.TakeTree(b)
	case 3:
		_, e = object.TakeCommit(b)
	}
	return e
}

// files are those of the tree of that key, and why there are none.
func (m *model) files(k api.Key) ([]api.File, api.Errno) {
	b := m.get(k)
	if b == nil {
		return nil, api.ErrNone
	}
	entries, e := object.TakeTree(b)
	if e != api.OK {
		return nil, e
	}
	var l []api.File
	lost, odd := false, false
	for _, one := range entries {
		b := m.get(one.Blob)
		lost = lost || b == nil
		odd = odd || b != nil && b[0] != 1
		if b != nil {
			l = append(l, api.File{Path: one.Path, Exec: one.Exec, Text: string(b[1:])})
		}
	}
	switch {
	case lost:
		return nil, api.ErrNone
	case odd:
		return nil, api.ErrForm
	}
	return l, api.OK
}

// mayCommit is the error of PutCommit.
func (m *model) mayCommit(c api.Commit) api.Errno {
	t, p := m.get(c.Tree), m.get(c.Parent)
	switch {
	case len(c.Message) > 1_000:
		return api.ErrLimit
	case c.Rooted && c.Parent != none:
		return api.ErrForm
	case t == nil || t[0] != 2:
		return api.ErrNone
	case !c.Rooted && (p == nil || p[0] != 3):
		return api.ErrNone
	}
	return api.OK
}

// bytes are those of some object, or of none; of a tree of what is there, or is not.
func (m *model) bytes(d *dice) []byte {
	var b []byte
	switch d.next(4) {
	case 0, 1:
		b = blob(d.text())
	case 2:
		b = treeOf(api.Entry{Path: "a", Blob: m.key(d)}, api.Entry{Path: "b", Exec: d.next(2) == 1, Blob: m.key(d)})
	case 3:
		b = commitOf(api.Commit{Parent: m.key(d), Tree: m.key(d), Message: d.text()})
	}
	if d.next(5) == 0 {
		b[d.next(len(b))] = byte(d.next(5))
	}
	if d.next(20) == 0 {
		b = b[:d.next(len(b))]
	}
	return b
}

// commit is one that may be put or not.
func (m *model) commit(d *dice) api.Commit {
	c := api.Commit{Rooted: d.next(2) == 0, Tree: m.key(d), Message: d.text(), Serial: uint64(d.next(3))}
	if !c.Rooted || d.next(6) == 0 {
		c.Parent = m.key(d)
	}
	if d.next(20) == 0 {
		c.Message = long(1_001)
	}
	return c
}

// pair is a store, and what it has to be like.
type pair struct {
	s *store.Store
	m *model
}

// step does one thing with both, and fails unless they answer alike; it answers whether it was done.
func (p pair) step(t *testing.T, d *dice) bool {
	t.Helper()
	switch d.next(4) {
	case 0:
		b := p.m.bytes(d)
		e := take(b)
		puts(t, fmt.Sprintf("% x", b), p.s, b, e)
		if e == api.OK {
			p.m.put(b)
		}
		return e == api.OK
	case 1:
		l := d.files()
		e := api.OK
		if !tree.Right(l) {
			e = api.ErrForm
		}
		isKey(t, fmt.Sprint("P16.2: PutTree of ", l), treeOfFiles(l), e)(p.s.PutTree(l))
		for _, f := range l {
			if e == api.OK {
				p.m.put(blob(f.Text))
			}
		}
		if e == api.OK {
			p.m.put(treeOfFiles(l))
		}
		return e == api.OK
	case 2:
		c := p.m.commit(d)
		e := p.m.mayCommit(c)
		isKey(t, fmt.Sprintf("P16.2: PutCommit of %+v", c), commitOf(c), e)(p.s.PutCommit(c))
		if e == api.OK {
			p.m.put(commitOf(c))
		}
		return e == api.OK
	}
	k := p.m.key(d)
	l, e := p.m.files(k)
	filesAre(t, fmt.Sprintf("%x", k), p.s, k, l, e)
	p.commitIsAlike(t, k)
	return e == api.OK
}

// commitIsAlike fails unless Commit of k answers what is there.
func (p pair) commitIsAlike(t *testing.T, k api.Key) {
	t.Helper()
	b := p.m.get(k)
	c, e := p.s.Commit(k)
	want := api.OK
	switch {
	case b == nil:
		want = api.ErrNone
	case b[0] != 3:
		want = api.ErrForm
	}
	if e != want || e != api.OK && c != (api.Commit{}) || e == api.OK && !bytes.Equal(commitOf(c), b) {
		t.Errorf("P16.2: Commit of %x: %+v, error %d; want error %d", k, c, e, want)
	}
}

func TestStoresOfTheDice(t *testing.T) {
	d := dice(16)
	done, refused := 0, 0
	for range 60 {
		all := []pair{{store.New(), &model{}}}
		for range 80 {
			p := all[d.next(len(all))]
			if d.next(16) == 0 {
				all = append(all, pair{p.s.Fork(), &model{slices.Clone(p.m.all)}})
				continue
			}
			if p.step(t, &d) {
				done++
			} else {
				refused++
			}
		}
		for i, p := range all {
			has(t, fmt.Sprint("the store ", i), p.s, p.m.all...)
		}
	}
	if done < 1_000 || refused < 1_000 {
		t.Errorf("%d steps were done, and %d refused: that is no fair test", done, refused)
	}
}
