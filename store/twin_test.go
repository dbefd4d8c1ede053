package store

import (
	"slices"
	"testing"

	"rick/api"
	"rick/digest"
	"rick/object"
)

// planted answers a store that has an object other than b under b's key: no two that are known have one key.
func planted(b []byte) (*Store, []byte) {
	other := []byte("\x01another one")
	s := New()
	s.Put([]byte("\x01ahead of it"))
	s.add(digest.Sum(b), other)
	return s, other
}

// refuses fails unless that answer was ErrTwin alone, and s has just what it was planted with.
func refuses(t *testing.T, what string, s *Store, k api.Key, e api.Errno, b, other []byte) {
	t.Helper()
	if e != api.ErrTwin || k != (api.Key{}) {
		t.Errorf("%s: key % x, error %d; want none, error %d", what, k, e, api.ErrTwin)
	}
	there, is := s.Get(digest.Sum(b))
	if !is || !slices.Equal(there, other) || s.Len() != 2 || len(s.held) != 2 {
		t.Errorf("R4: %s was refused, but %d objects are there, under that key %q", what, s.Len(), there)
	}
}

func TestAnotherObjectUnderThatKey(t *testing.T) {
	b := []byte("\x01ab")
	s, other := planted(b)
	k, e := s.Put(b)
	refuses(t, "P16.1: Put of a twin", s, k, e, b, other)
	if k, e := s.Fork().Put(b); e != api.ErrTwin || k != (api.Key{}) {
		t.Errorf("P16.1: Put of a twin, in a fork: error %d; want %d", e, api.ErrTwin)
	}

	short := []byte{api.KindCommit}
	s, _ = planted(short)
	if k, e := s.Put(short); e != api.ErrShort || k != (api.Key{}) || s.Len() != 2 {
		t.Errorf("R5: Put of a twin that is no object: error %d, %d objects; want %d", e, s.Len(), api.ErrShort)
	}
}

func TestATreeWhoseFilesOrEntriesHaveATwin(t *testing.T) {
	l := []api.File{{Path: "a", Text: "1"}, {Path: "b", Text: "2"}, {Path: "c", Text: "1"}}
	whole := New()
	whole.PutTree(l)
	for i := range whole.Len() {
		b, _ := whole.At(i)
		s, other := planted(b)
		k, e := s.PutTree(l)
		refuses(t, "P16.2: PutTree with a twin", s, k, e, b, other)
		if _, is := s.Get(digest.Sum([]byte("\x01ahead of it"))); !is {
			t.Error("R4: PutTree was refused, but what was there ahead of it is not there")
		}
		if _, e := s.Put([]byte("\x01behind it")); e != api.OK || s.Len() != 3 {
			t.Errorf("R4: PutTree was refused, but then Put answers %d, and there are %d objects", e, s.Len())
		}
	}
}

func TestACommitWithATwin(t *testing.T) {
	files, _ := object.Tree(nil)
	c := api.Commit{Rooted: true, Tree: digest.Sum(files), Message: "m"}
	b, _ := object.Commit(c)
	s := New()
	s.PutTree(nil)
	s.add(digest.Sum(b), []byte("\x01another one"))
	if k, e := s.PutCommit(c); e != api.ErrTwin || k != (api.Key{}) || s.Len() != 2 {
		t.Errorf("P16.2: PutCommit of a twin: key % x, error %d, %d objects", k, e, s.Len())
	}
}
